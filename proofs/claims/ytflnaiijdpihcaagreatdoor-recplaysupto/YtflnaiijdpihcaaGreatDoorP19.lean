/- Joined: Sn Sd Sp InR Sq. -/
import Derived.Deep.Slices
import Derived.ChangeSame
import Derived.ChangeArms
import Derived.ChangeSlices
import Derived.Test.YtflnaiijdpihcaaGreatDoorP10
import Derived.Test.YtflnaiijdpihcaaGreatDoorP17
import Derived.Test.YtflnaiijdpihcaaGreatDoorP18
namespace Go.Proofs.YtflnaiijdpihcaaGreatDoor
open Go.RowKit

section
section
variable {nu sz : Nat} {w w' w0 : World} {X : Nat → Prop} {hb sb b N : Nat} {T : Tay} {A : Ab} {s : Int} {base : Nat → Int} {rs : List Rc} {ad : Option Addr} {cp : Nat}

set_option maxRecDepth 20000 in
set_option maxHeartbeats 4000000 in
theorem l10_sound (hc : HpC nu sz w0 X w hb sb b T A N True s base) (R : Recs nu sz (rb base) rs) (rl : RcsAt nu w ad rs) (nr : ∀ x, ad = some x → x.block < w.heap.size) (l100 : rs.length ≤ 100) (hs : s + 30729 < 4294967296) :
    Calls Tryz.prog 16 #[ptr sb, ptr hb, .slice ad rs.length cp] w fun e w' => e = .returned (.bool true) ∧ Fr (tfoot sb b T) w w' ∧ ∃ T' A', HpC nu sz w0 X w' hb sb b T' A' N True (s + 30729) base := by
  obtain ⟨W1, hW1⟩ : ∃ W1, w.alloc (.cells #[ptr sb] 24) = W1 := ⟨_, rfl⟩
  obtain ⟨W2, hW2⟩ : ∃ W2, W1.alloc (.cells #[ptr hb] 25) = W2 := ⟨_, rfl⟩
  obtain ⟨W3, hW3⟩ : ∃ W3, W2.alloc (.cells #[.slice ad rs.length cp] 29) = W3 := ⟨_, rfl⟩
  obtain ⟨W4, hW4⟩ : ∃ W4, W3.alloc (.cells #[.int .i64 0] 3) = W4 := ⟨_, rfl⟩
  obtain ⟨W5, hW5⟩ : ∃ W5, W4.alloc (.cells #[.bool true] 4) = W5 := ⟨_, rfl⟩
  obtain ⟨q, hq⟩ : ∃ q, w.heap.size = q := ⟨_, rfl⟩
  have z1 : W1.heap.size = q + 1 := by rw [← hW1]; simp [hq]
  have z2 : W2.heap.size = q + 2 := by rw [← hW2]; simp; omega
  have z3 : W3.heap.size = q + 3 := by rw [← hW3]; simp; omega
  have z4 : W4.heap.size = q + 4 := by rw [← hW4]; simp; omega
  have f01 : Still w W1 := hW1 ▸ (Fr.refl _ w).alloc _
  have f12 : Still W1 W2 := hW2 ▸ (Fr.refl _ W1).alloc _
  have f23 : Still W2 W3 := hW3 ▸ (Fr.refl _ W2).alloc _
  have f34 : Still W3 W4 := hW4 ▸ (Fr.refl _ W3).alloc _
  have f45 : Still W4 W5 := hW5 ▸ (Fr.refl _ W4).alloc _
  have f35 : Still W3 W5 := f34.trans' f45 (fun _ x => x.elim)
  have f25 : Still W2 W5 := f23.trans' f35 (fun _ x => x.elim)
  have f15 : Still W1 W5 := f12.trans' f25 (fun _ x => x.elim)
  have f05 : Still w W5 := f01.trans' f15 (fun _ x => x.elim)
  have hc1 := hc.more (.cells #[ptr sb] 24)
  rw [hW1, hq] at hc1
  have hc2 := hc1.more (.cells #[ptr hb] 25)
  rw [hW2, z1] at hc2
  have hc3 := hc2.more (.cells #[.slice ad rs.length cp] 29)
  rw [hW3, z2] at hc3
  have hc4 := hc3.more (.cells #[.int .i64 0] 3)
  rw [hW4, z3] at hc4
  have hc5 := hc4.more (.cells #[.bool true] 4)
  rw [hW5, z4] at hc5
  have bs : Box W5 q (ptr sb) := by
    have := Box.new w (ptr sb) 24
    rw [hW1, hq] at this; exact this.kept f15 (fun x => x)
  have bh : Box W5 (q + 1) (ptr hb) := by
    have := Box.new W1 (ptr hb) 25
    rw [hW2, z1] at this; exact this.kept f25 (fun x => x)
  have bl : Box W5 (q + 2) (.slice ad rs.length cp) := by
    have := Box.new W2 (.slice ad rs.length cp) 29
    rw [hW3, z2] at this; exact this.kept f35 (fun x => x)
  have bn : Box W5 (q + 3) (.int .i64 0) := by
    have := Box.new W3 (.int .i64 0) 3
    rw [hW4, z3] at this; exact this.kept f45 (fun x => x)
  have bo : Box W5 (q + 4) (.bool true) := by
    have := Box.new W4 (.bool true) 4
    rw [hW5, z4] at this; exact this
  have lhb : hb < q := by rw [← hq]; exact (hc.hd.xl hb hc.xh).2
  have l0 : 0 < q := by rw [← hq]; exact Nat.lt_of_lt_of_le hc.l0 hc.hd.fr.size
  have sy := hc.says []
  rw [homed_nil] at sy
  have DO := hc5.do_ (V := fun k => k = q + 3 ∨ k = q + 4) (g := 65) (fi := #[]) (ca := #[ptr (q + 2), ptr q, ptr (q + 1), ptr (q + 3), ptr (q + 4)]) (R := fun h P' w' => h = .well ∧ P' = [] ∧ Box w' (q + 3) (.int .i64 ((allU rs).length : Nat)) ∧ Box w' (q + 4) (.bool true))
    (fun k hk => by rcases hk with e | e; exact .inl (.inr e); exact .inr e) (by omega) (by
      rintro h P w w' F ⟨e1, e2, b1, b2⟩ hf hn
      exact ⟨e1, e2, b1.kept hf (hn _ (.inl rfl)), b2.kept hf (hn _ (.inr rfl))⟩) (fun w3 f3 => acts_of (fun _ _ => by kernel_rfl) ((sdC (hc5.toHp.still f3) (by rw [sy]; exact R) (f3.cell' bl.c (fun x => x)) (f3.cell' bs.c (fun x => x)) (f3.cell' bh.c (fun x => x)) ((rl.kept f05).kept f3) (bn.kept f3 (fun x => x)) (bo.kept f3 (fun x => x)) ⟨hc5.hd.ap _ (.inl (.inr rfl)), hc5.hd.ap _ (.inr rfl)⟩ (by omega) (fun x hx => by have := nr x hx; omega) l100).mono (by
      rintro e w4 ⟨rfl, fr, b1, b2⟩
      refine ⟨.well, rfl, .inl rfl, T, [], (OnxX.of (Onx.start (hc5.toHp.still f3).st)).var fr (fun k hk => hk) (fun k hk => ?_), rfl, rfl, b1, b2⟩
      rcases hk with rfl | rfl
      · exact hc5.hd.ap _ (.inl (.inr rfl))
      · exact hc5.hd.ap _ (.inr rfl)))) (by omega)
  have h2 := mf
  have HXH := hide hc.xh
  have bsc := bs.c
  rw [← hW5, ← hW4, ← hW3, ← hW2, ← hW1] at bsc
  have HDO := hide DO; have HX5 := hide (And.intro hc5 (And.intro bh (And.intro f05 R))); have HW := hide (And.intro hW1 (And.intro hW2 (And.intro hW3 (And.intro hW4 hW5))))
  generalize rs.length = nl at *
  clear DO hc hc1 hc2 hc3 hc4 hc5 bs bh bl bn bo f01 f12 f23 f34 f45 f35 f25 f15 f05 hW1 hW2 hW3 hW4 hW5 R rl nr sy lhb l0
  go_enter Tryz.func16, Tryz.ntmps16
  go_wp2_with fail
  rw [(unhide HW).1, (unhide HW).2.1, (unhide HW).2.2.1, (unhide HW).2.2.2.1, (unhide HW).2.2.2.2]
  unfold DidH at HDO
  refine (unhide HDO).mono ?_
  clear HDO bsc
  rintro e w6 ⟨fr6, ⟨P', T', A', ⟨_, rfl, bn6, bo6⟩, rfl, hc6⟩ | ⟨i, P', T', ⟨hq2, _⟩, _⟩⟩
  · obtain ⟨hc5, bh5, f05, R⟩ := unhide HX5
    rw [homed_nil] at hc6
    have bh6 := hc5.box fr6 (.inl (.inl (.inl (.inr rfl)))) (by omega) bh5
    have sy6 := hc6.says []
    rw [homed_nil] at sy6
    have hp6 := hc6.toHp
    have PC : ∀ w7, Still w6 w7 → Calls Tryz.prog 22 #[ptr hb] w7 fun e w' => ∃ v, e = .returned v ∧ w'.ownsRow w7.heap.size 3 1 v (allU rs).length (natVals (plP nu (ask nu (rb base)) nu)) ∧ Still w7 w' := fun w7 f7 => by
      have := h_pieces (hp6.still f7) (by rw [sy6]; exact R.st)
      rw [sy6, R.cnt] at this
      exact this
    have CK : ∀ w7, Still w6 w7 → Calls Tryz.prog 41 #[ptr hb] w7 fun e w' => e = .returned (.int .i64 0) ∧ Still w7 w' := fun w7 f7 => h_check (hp6.still f7) (by rw [sy6]; exact R.st)
    obtain ⟨g1, g2, g3, g4, g5, g6⟩ := hp6.hp.geo.b
    have few := R.few (by omega)
    have HPC := @hide _ PC; have HCK := @hide _ CK
    have fr0 : Fr (tfoot sb b T) w w6 := (f05.mono (G := tfoot sb b T) (fun _ hk => hk.elim)).trans' fr6 (fun k hk => by
      rcases hk with hk | hk
      · exact .inl hk
      · exact .inr (by rw [hq]; rcases hk with rfl | rfl <;> omega))
    have HE := hide (And.intro fr0 (hc6.sub (Y := X) (fun k hk => .inl (.inl (.inl (.inl (.inl hk))))) (unhide HXH)))
    have c1 := bn6.c; have c2 := bo6.c; have c3 := bh6.c
    clear PC CK hc5 bh5 f05 R hc6 bh6 sy6 hp6 fr6 fr0 bn6 bo6 g1 g2 g3 g4 g5 g6 HX5
    generalize (allU rs).length = Al at *
    go_upto_region 4 with fail
    obtain ⟨W, hW⟩ : ∃ W, w6.drew = W := ⟨_, rfl⟩
    have fW : Still w6 W := hW ▸ (Fr.refl _ w6).drewN 1
    refine wp_region_held_drew (S := fun w' => w'.cell? ⟨q + 3, 0, none⟩ = some (.int .i64 Al) ∧ w'.cell? ⟨q + 4, 0, none⟩ = some (.bool true) ∧ w'.cell? ⟨q + 1, 0, none⟩ = some (ptr hb)) (by kernel_rfl) ?_ (fun hHeld => ?_)
    · rw [hW]; exact ⟨fW.cell' c1 (fun x => x), fW.cell' c2 (fun x => x), fW.cell' c3 (fun x => x)⟩
    rw [hW] at hHeld ⊢
    clear hW c1 c2 c3
    refine take_l 0 (v := ?_) rfl (by kernel_rfl) (by kernel_rfl) (by kernel_rfl) (fun _ _ _ h => h) (Or.inl ⟨by rfl, ?_⟩) hHeld ?_
    rotate_left
    · (intro w hSw; (try dsimp only at hSw); go_simp; (try with_reducible rfl))
    simp only [Act.put, List.setIfInBounds_toArray, List.set_cons_zero, List.set_cons_succ]
    refine take_l 1 (v := ?_) rfl (by kernel_rfl) (by kernel_rfl) (by kernel_rfl) (fun _ _ _ h => h) (Or.inl ⟨by rfl, ?_⟩) hHeld ?_
    rotate_left
    · (intro w hSw; (try dsimp only at hSw); go_simp; (try with_reducible rfl))
    simp only [Act.put, List.setIfInBounds_toArray, List.set_cons_zero, List.set_cons_succ]
    refine take_l 2 (v := ?_) rfl (by kernel_rfl) (by kernel_rfl) (by kernel_rfl) (fun _ _ _ h => h) (Or.inl ⟨by rfl, ?_⟩) hHeld ?_
    rotate_left
    · (intro w hSw; (try dsimp only at hSw); go_simp; (try with_reducible rfl))
    simp only [Act.put, List.setIfInBounds_toArray, List.set_cons_zero, List.set_cons_succ]
    refine take_l 3 (v := ?_) rfl (by kernel_rfl) (by kernel_rfl) (by kernel_rfl) (fun _ _ _ h => h) (Or.inl ⟨by rfl, ?_⟩) hHeld ?_
    rotate_left
    · (intro w hSw; (try dsimp only at hSw); go_simp; (try with_reducible rfl))
    simp only [Act.put, List.setIfInBounds_toArray, List.set_cons_zero, List.set_cons_succ]
    refine take_l 4 (v := ?_) rfl (by kernel_rfl) (by kernel_rfl) (by kernel_rfl) (fun _ _ _ h => h) (Or.inl ⟨by rfl, ?_⟩) hHeld ?_
    rotate_left
    · (intro w hSw; (try dsimp only at hSw); go_simp; (try with_reducible rfl))
    simp only [Act.put, List.setIfInBounds_toArray, List.set_cons_zero, List.set_cons_succ]
    refine take_l 5 (v := ?_) rfl (by kernel_rfl) (by kernel_rfl) (by kernel_rfl) (fun _ _ _ h => h) (Or.inl ⟨by rfl, ?_⟩) hHeld ?_
    rotate_left
    · (intro w hSw; (try dsimp only at hSw); go_simp; (try with_reducible rfl))
    simp only [Act.put, List.setIfInBounds_toArray, List.set_cons_zero, List.set_cons_succ]
    refine take_l 6 (v := ?_) rfl (by kernel_rfl) (by kernel_rfl) (by kernel_rfl) (fun _ _ _ h => h) (Or.inl ⟨by rfl, ?_⟩) hHeld ?_
    rotate_left
    · (intro w hSw; (try dsimp only at hSw); go_simp; (try with_reducible rfl))
    simp only [Act.put, List.setIfInBounds_toArray, List.set_cons_zero, List.set_cons_succ]
    refine take_l 7 (v := ?_) rfl (by kernel_rfl) (by kernel_rfl) (by kernel_rfl) (fun _ _ _ h => h) (Or.inl ⟨by rfl, ?_⟩) hHeld ?_
    rotate_left
    · (intro w hSw; (try dsimp only at hSw); go_simp; (try with_reducible rfl))
    simp only [Act.put, List.setIfInBounds_toArray, List.set_cons_zero, List.set_cons_succ]
    refine wpAnyH_ready (rs := [8]) (by kernel_rfl) (by simp) ?_
    refine AllReadyH.cons rfl (fun K hK => ?_) AllReadyH.nil
    go_simp
    go_wp2_with fail
    refine (unhide HPC W fW).mono ?_
    clear HPC
    rintro e w7 ⟨vp, rfl, ow, f7⟩
    obtain ⟨ap, pc, rfl⟩ : ∃ ap pc, vp = .slice ap Al pc := by
      rcases row_form ow with ⟨e0, e1⟩ | ⟨gp, capp, e0⟩
      · exact ⟨none, 0, by rw [e0, e1]⟩
      · exact ⟨_, capp, e0⟩
    have hS7 := And.intro (f7.cell' hHeld.1 (fun x => x)) (And.intro (f7.cell' hHeld.2.1 (fun x => x)) (f7.cell' hHeld.2.2 (fun x => x)))
    have f67 : Still w6 w7 := fW.trans' f7 (fun _ x => x.elim)
    refine hK.out _ _ hS7 (fun _ => ?_)
    clear hK K ow hHeld
    refine take_l 9 (v := ?_) rfl (by kernel_rfl) (by kernel_rfl) (by kernel_rfl) (fun _ _ _ h => h) (Or.inl ⟨by rfl, ?_⟩) hS7 ?_
    rotate_left
    · (intro w hSw; (try dsimp only at hSw); go_simp; (try with_reducible rfl))
    simp only [Act.put, List.setIfInBounds_toArray, List.set_cons_zero, List.set_cons_succ]
    refine take_l 10 (v := ?_) rfl (by kernel_rfl) (by kernel_rfl) (by kernel_rfl) (fun _ _ _ h => h) (Or.inl ⟨by rfl, ?_⟩) hS7 ?_
    rotate_left
    · (intro w hSw; (try dsimp only at hSw); go_simp; (try with_reducible rfl))
    simp only [Act.put, List.setIfInBounds_toArray, List.set_cons_zero, List.set_cons_succ]
    refine take_l 11 (v := ?_) rfl (by kernel_rfl) (by kernel_rfl) (by kernel_rfl) (fun _ _ _ h => h) (Or.inl ⟨by rfl, ?_⟩) hS7 ?_
    rotate_left
    · (intro w hSw; (try dsimp only at hSw); go_simp; (try with_reducible rfl))
    simp only [Act.put, List.setIfInBounds_toArray, List.set_cons_zero, List.set_cons_succ]
    refine take_l 12 (v := ?_) rfl (by kernel_rfl) (by kernel_rfl) (by kernel_rfl) (fun _ _ _ h => h) (Or.inl ⟨by rfl, ?_⟩) hS7 ?_
    rotate_left
    · (intro w hSw; (try dsimp only at hSw); go_simp; (try with_reducible rfl))
    simp only [Act.put, List.setIfInBounds_toArray, List.set_cons_zero, List.set_cons_succ]
    refine take_l 13 (v := ?_) rfl (by kernel_rfl) (by kernel_rfl) (by kernel_rfl) (fun _ _ _ h => h) (Or.inl ⟨by rfl, ?_⟩) hS7 ?_
    rotate_left
    · (intro w hSw; (try dsimp only at hSw); go_simp; (try with_reducible rfl))
    simp only [Act.put, List.setIfInBounds_toArray, List.set_cons_zero, List.set_cons_succ]
    refine wpAnyH_ready (rs := [14]) (by kernel_rfl) (by simp) ?_
    refine AllReadyH.cons rfl (fun K hK => ?_) AllReadyH.nil
    go_simp
    go_wp2_with fail
    refine (unhide HCK w7 f67).mono ?_
    clear HCK
    rintro e w8 ⟨rfl, f8⟩
    have hS8 := And.intro (f8.cell' hS7.1 (fun x => x)) (And.intro (f8.cell' hS7.2.1 (fun x => x)) (f8.cell' hS7.2.2 (fun x => x)))
    have HF8 := hide (f67.trans' f8 (fun _ x => x.elim))
    refine hK.out _ _ hS8 (fun _ => ?_)
    clear hK K hS7
    refine take_l 15 (v := ?_) rfl (by kernel_rfl) (by kernel_rfl) (by kernel_rfl) (fun _ _ _ h => h) (Or.inl ⟨by rfl, ?_⟩) hS8 ?_
    rotate_left
    · (intro w hSw; (try dsimp only at hSw); go_simp; (try with_reducible rfl))
    simp only [Act.put, List.setIfInBounds_toArray, List.set_cons_zero, List.set_cons_succ]
    refine take_l 16 (v := ?_) rfl (by kernel_rfl) (by kernel_rfl) (by kernel_rfl) (fun _ _ _ h => h) (Or.inl ⟨by rfl, ?_⟩) hS8 ?_
    rotate_left
    · (intro w hSw; (try dsimp only at hSw); go_simp; (try with_reducible rfl))
    simp only [Act.put, List.setIfInBounds_toArray, List.set_cons_zero, List.set_cons_succ]
    refine take_l 17 (v := ?_) rfl (by kernel_rfl) (by kernel_rfl) (by kernel_rfl) (fun _ _ _ h => h) (Or.inl ⟨by rfl, ?_⟩) hS8 ?_
    rotate_left
    · (intro w hSw; (try dsimp only at hSw); go_simp; (try with_reducible rfl))
    simp only [Act.put, List.setIfInBounds_toArray, List.set_cons_zero, List.set_cons_succ]
    clear hS8
    refine wpAnyH_done (by kernel_rfl) ?_ _
    go_wp2
    go_ret
    obtain ⟨fr0, hc6⟩ := unhide HE
    have f8 := unhide HF8
    exact ⟨rfl, fr0.trans (f8.mono (G := tfoot sb b T) (fun _ hk => hk.elim)), T', A', hc6.still f8⟩
  · cases hq2
end
end

section
theorem NewH.room {g : Nat → Int} (n : NewH 478 g) : ∀ us xs f, Takn 478 g us xs f → (∀ x ∈ xs, 1 ≤ x ∧ x ≤ 64) → us.length < 17 → ∃ j c, 3 ≤ j ∧ j < 7 ∧ fre 478 f j c = true := fun us xs f t hx hl =>
  t.room n.st hx (fun u => by rw [n.ak]; exact Nat.zero_le _) (by rw [n.ak, cnt_none]; omega)

theorem HpS.free0 {g : Nat → Int} (s : HpS 478 g) (e : ask 478 g = fun _ => 0) : g 1 = ((3824 : Nat) : Int) := by rw [s.fr, e, inP_none]

def AwR (f : Nat → Int) (A : Ab) (bn bk bg : Nat) (P' : List (Int × Int)) (w' : World) : Prop := Box w' bn (.int .i64 2) ∧ Box w' bk (.int .i64 1) ∧ Box w' bg (.bool true) ∧ HpS 478 (says P' A) ∧ MadeGone 478 f (says P' A)
theorem AwR_stays (f : Nat → Int) (A : Ab) (bn bk bg : Nat) : Stays (fun k => k = bn ∨ k = bk ∨ k = bg) (fun h P' w' => h = .well ∧ AwR f A bn bk bg P' w') := by
  rintro h P w w' F ⟨q, b1, b2, b3, t⟩ hf hn
  exact ⟨q, b1.kept hf (hn bn (.inl rfl)), b2.kept hf (hn bk (.inr (.inl rfl))), b3.kept hf (hn bg (.inr (.inr rfl))), t⟩

set_option maxRecDepth 20000 in
set_option maxHeartbeats 4000000 in
theorem l10_awake (w : World) (tab : TabL w) : Calls Tryz.prog 10 #[] w fun e w' => e = .returned (.bool true) ∧ Still w w' := by
  have K : Calls Tryz.prog 9 #[.int .i64 16384] w _ := l8_open geo16 (N := 2048) (by omega) w tab
  have h1 := eq_nil_heap
  have h2 := mf
  have HK := hide K
  clear K tab
  go_enter Tryz.func10, Tryz.ntmps10
  go_wp2_with fail
  refine (unhide HK).mono ?_
  clear HK
  rintro e w1 ⟨b, sb, hb, T, A, base, rfl, hc, nw⟩
  obtain ⟨W1, hW1⟩ : ∃ W1, w1.alloc (.cells #[ptr sb] 24) = W1 := ⟨_, rfl⟩
  obtain ⟨W2, hW2⟩ : ∃ W2, W1.alloc (.cells #[ptr hb] 25) = W2 := ⟨_, rfl⟩
  obtain ⟨W3, hW3⟩ : ∃ W3, W2.alloc (.cells #[.bool false] 4) = W3 := ⟨_, rfl⟩
  obtain ⟨W4, hW4⟩ : ∃ W4, W3.alloc (.cells #[.int .i64 0] 3) = W4 := ⟨_, rfl⟩
  obtain ⟨W5, hW5⟩ : ∃ W5, W4.alloc (.cells #[.int .i64 0] 3) = W5 := ⟨_, rfl⟩
  obtain ⟨n1, hn1⟩ : ∃ n1, w1.heap.size = n1 := ⟨_, rfl⟩
  have z1 : W1.heap.size = n1 + 1 := by rw [← hW1]; simp [hn1]
  have z2 : W2.heap.size = n1 + 2 := by rw [← hW2]; simp; omega
  have z3 : W3.heap.size = n1 + 3 := by rw [← hW3]; simp; omega
  have z4 : W4.heap.size = n1 + 4 := by rw [← hW4]; simp; omega
  have f12 : Still W1 W2 := hW2 ▸ (Fr.refl _ W1).alloc _
  have f23 : Still W2 W3 := hW3 ▸ (Fr.refl _ W2).alloc _
  have f34 : Still W3 W4 := hW4 ▸ (Fr.refl _ W3).alloc _
  have f45 : Still W4 W5 := hW5 ▸ (Fr.refl _ W4).alloc _
  have f25 : Still W2 W5 := (f23.trans' f34 (fun _ x => x.elim)).trans' f45 (fun _ x => x.elim)
  have hc1 := hc.more (.cells #[ptr sb] 24)
  rw [hW1, hn1] at hc1
  have hc2 := hc1.more (.cells #[ptr hb] 25)
  rw [hW2, z1] at hc2
  have hc3 := hc2.more (.cells #[.bool false] 4)
  rw [hW3, z2] at hc3
  have hc4 := hc3.more (.cells #[.int .i64 0] 3)
  rw [hW4, z3] at hc4
  have hc5 := hc4.more (.cells #[.int .i64 0] 3)
  rw [hW5, z4] at hc5
  have bs2 : Box W2 n1 (ptr sb) := by
    have := Box.new w1 (ptr sb) 24
    rw [hW1, hn1] at this; exact this.kept f12 (fun x => x)
  have bh2 : Box W2 (n1 + 1) (ptr hb) := by
    have := Box.new W1 (ptr hb) 25
    rw [hW2, z1] at this; exact this
  have bg : Box W5 (n1 + 2) (.bool false) := by
    have := Box.new W2 (.bool false) 4
    rw [hW3, z2] at this; exact (this.kept f34 (fun x => x)).kept f45 (fun x => x)
  have bn : Box W5 (n1 + 3) (.int .i64 0) := by
    have := Box.new W3 (.int .i64 0) 3
    rw [hW4, z3] at this; exact this.kept f45 (fun x => x)
  have bk : Box W5 (n1 + 4) (.int .i64 0) := by
    have := Box.new W4 (.int .i64 0) 3
    rw [hW5, z4] at this; exact this
  have bs := bs2.kept f25 (fun x => x); have bh := bh2.kept f25 (fun x => x)
  have lhb : hb < n1 := by rw [← hn1]; exact (hc.hd.xl hb hc.xh).2
  have l0 : 0 < n1 := by rw [← hn1]; exact Nat.lt_of_lt_of_le hc.l0 hc.hd.fr.size
  have sy := hc.says []
  rw [homed_nil] at sy
  have FR := h_free hc2.toHp.hp hc2.toHp.reads 3824 (by omega) (by rw [sy]; exact nw.st.free0 nw.ak)
  have DO := hc5.do_ (V := fun k => k = n1 + 3 ∨ k = n1 + 4 ∨ k = n1 + 2) (g := 47) (fi := #[]) (ca := #[ptr n1, ptr (n1 + 1), ptr (n1 + 3), ptr (n1 + 4), ptr (n1 + 2)]) (R := fun h P' w' => h = .well ∧ AwR (rb base) A (n1 + 3) (n1 + 4) (n1 + 2) P' w')
    (fun k hk => by rcases hk with e | e | e; exact .inl (.inr e); exact .inr e; exact .inl (.inl (.inr e))) (by omega) (AwR_stays (rb base) A _ _ _) (fun w3 f3 => acts_of (fun _ _ => by kernel_rfl) ((awC10 (hc5.toHp.still f3) (by rw [sy]; exact nw.st) (by simp) (by rw [sy]; exact nw.room) (f3.cell' bs.c (fun x => x)) (f3.cell' bh.c (fun x => x)) (bn.kept f3 (fun x => x)) (bk.kept f3 (fun x => x)) (bg.kept f3 (fun x => x)) (fun k hk => by
      rcases hk with rfl | rfl | rfl | rfl | rfl
      · exact hc5.hd.ap _ (.inl (.inl (.inl (.inl (.inr rfl)))))
      · exact hc5.hd.ap _ (.inl (.inl (.inl (.inr rfl))))
      · exact hc5.hd.ap _ (.inl (.inr rfl))
      · exact hc5.hd.ap _ (.inr rfl)
      · exact hc5.hd.ap _ (.inl (.inl (.inr rfl)))) (by omega)).mono (by
      rintro e w4 ⟨rfl, T', P', o, b1, b2, b3, t1, t2⟩
      rw [sy] at t2
      exact ⟨.well, rfl, .inl rfl, T', P', o, rfl, b1, b2, b3, t1, t2⟩))) (by omega)
  have bsc := bs2.c; have bhc := bh2.c
  have HDO := hide DO; have HFR := hide FR; have HC5 := hide hc5; have HBB := hide (And.intro bs bh); have HNW := hide nw
  have HW := hide (And.intro hW1 hW2); have HW3 := hide (And.intro hW3 (And.intro hW4 hW5))
  have HN := hide (And.intro hn1 (And.intro z1 (And.intro z2 (And.intro z3 z4))))
  have bsc5 := bs.c
  rw [← hW5, ← hW4, ← hW3] at bsc5
  rw [← hW2, ← hW1] at bhc
  clear DO FR hc hc1 hc2 hc3 hc4 hc5 bs bh bs2 bh2 bg bn bk nw sy f12 f23 f34 f45 f25 hW1 hW2 hW3 hW4 hW5 lhb l0 bsc
  go_wp2_with fail
  rw [(unhide HW).1, (unhide HW).2]
  refine (unhide HFR).mono ?_
  clear HFR
  rintro e w' ⟨rfl, hh⟩
  replace hh := hh.symm
  subst hh
  have bsc2 := (unhide HBB).1.c
  rw [← (unhide HW3).2.2, ← (unhide HW3).2.1, ← (unhide HW3).1] at bsc2
  go_wp2_with fail
  rw [(unhide HW3).1, (unhide HW3).2.1, (unhide HW3).2.2]
  unfold DidH at HDO
  refine (unhide HDO).mono ?_
  clear HDO
  rintro e w6 ⟨fr6, ⟨P', T', A', ⟨_, bn6, bk6, bg6, s6, mg⟩, rfl, hc6⟩ | ⟨i, P', T', ⟨hq, _⟩, _⟩⟩
  · have hp6 := hc6.toHp
    have sy6 := hc6.says []
    rw [homed_nil, ← (unhide HC5).says P'] at sy6
    have e0 : ask 478 (says P' A) = fun _ => 0 := by
      obtain ⟨g, u, us, md, dr⟩ := mg
      rw [md.gone dr]; exact (unhide HNW).ak
    have FR6 := h_free hp6.hp hp6.reads 3824 (by omega) (by rw [sy6]; exact s6.free0 e0)
    have bh6 := (unhide HC5).box fr6 (.inl (.inl (.inl (.inr rfl)))) (by omega) (unhide HBB).2
    have c1 := bn6.c; have c2 := bk6.c; have c3 := bg6.c; have c4 := bh6.c
    have HFR6 := hide FR6; have HFF := hide hc6.hd.fr
    clear FR6 hp6 sy6 e0 s6 mg hc6 bn6 bk6 bg6 bh6 fr6 bsc5 bhc bsc2
    go_wp2_with (first | (go_at_call 17; refine (unhide HFR6).mono ?_; rintro e w' ⟨rfl, hh⟩; replace hh := hh.symm; subst hh) | fail)
    go_ret
    exact ⟨rfl, unhide HFF⟩
  · cases hq
end

section
def KWell (nu : Nat) (rs : List Rc) (kx : Nat) (kd : Int) (n : Nat) (bt : Nat → Nat) (at_ : Int) (g : Bool) (rs' : List Rc) : Prop :=
  (kd = 0 ∧ n ≤ 4096 ∧ ∃ u us, at_ = ((fi nu + 8 * u : Nat) : Int) ∧ rs' = rs ++ [⟨u, us, n, 1, bt⟩]) ∨
  (kd = 1 ∧ ∃ r, rs[kx]? = some r ∧ rs' = rs.set kx { r with k := r.k + 1 }) ∨
  (kd ≠ 0 ∧ kd ≠ 1 ∧ kd ≠ 3 ∧ ∃ r, rs[kx]? = some r ∧ ((g = true ∧ r.k = 1 ∧ rs' = rs.eraseIdx kx) ∨ (g = false ∧ 2 ≤ r.k ∧ rs' = rs.set kx { r with k := r.k - 1 }))) ∨
  (kd ≠ 0 ∧ kd ≠ 3 ∧ rs = [] ∧ rs' = rs)
def KErr (kd : Int) (n : Nat) (i : Int) : Prop := (kd = 0 ∧ 4096 < n ∧ i = 5) ∨ ((kd = 0 ∨ kd = 3) ∧ i = 60) ∨ (kd = 3 ∧ i = 61)

def KR (nu sz : Nat) (A : Ab) (rs : List Rc) (kx : Nat) (kd : Int) (n : Nat) (bt : Nat → Nat) (ba bg : Nat) (h : How) (P' : List (Int × Int)) (w' : World) : Prop :=
  ∃ at_ g, Box w' ba (.int .i64 at_) ∧ Box w' bg (.bool g) ∧ ((h = .well ∧ ∃ rs', Recs nu sz (says P' A) rs' ∧ KWell nu rs kx kd n bt at_ g rs') ∨ ∃ i, h = .errno i ∧ KErr kd n i)
theorem KR_stays (nu sz : Nat) (A : Ab) (rs : List Rc) (kx : Nat) (kd : Int) (n : Nat) (bt : Nat → Nat) (ba bg : Nat) : Stays (fun k => k = ba ∨ k = bg) (KR nu sz A rs kx kd n bt ba bg) := by
  rintro h P w w' F ⟨a, g, b1, b2, t⟩ hf hn
  exact ⟨a, g, b1.kept hf (hn ba (.inl rfl)), b2.kept hf (hn bg (.inr rfl)), t⟩

section
variable {nu sz : Nat} {w w' w0 : World} {X : Nat → Prop} {hb sb b bo bs bh bw ba bl bk bg N : Nat} {T : Tay} {A : Ab} {s : Int} {base : Nat → Int} {kd : Int} {rs : List Rc} {ad : Option Addr} {cp kx : Nat} {wa : Option Addr} {n wc : Nat} {bt : Nat → Nat}

theorem py_acts (S : PyW nu sz w hb sb b T A [] bo bs bh bw ba bl bk bg kd rs ad cp kx wa n wc bt) (hne : ba ≠ bg) :
    Calls Tryz.prog 12 #[ptr bo, ptr bs, ptr bh, ptr bw, ptr ba, ptr bl, ptr bk, ptr bg] w fun e w' => ∃ h, How.ended h e ∧ ((h = .well ∨ ∃ i, h = .errno i) ∧ ∃ T' P', OnxX (fun k => k = ba ∨ k = bg) w sb b T w' T' sz A P' false ∧ KR nu sz A rs kx kd n bt ba bg h P' w') := by
  have nba := S.no ba (by simp)
  have nbg := S.no bg (by simp)
  have wid : ∀ {V : Nat → Prop} {w' : World} {T' : Tay} {P' : List (Int × Int)}, OnxX V w sb b T w' T' sz A P' false → (∀ k, V k → k = ba ∨ k = bg) → OnxX (fun k => k = ba ∨ k = bg) w sb b T w' T' sz A P' false := fun o hV => ⟨o.st, o.fr.mono (fun k hk => .inl (hk.imp id (hV k))), o.sub⟩
  by_cases h0 : kd = 0
  · subst h0
    refine (pyC0 S).mono ?_
    rintro e w' (⟨n4, rfl, T', P', u, us, o, bx, rc, md⟩ | ⟨rfl, T', P', o⟩ | ⟨n4, rfl, rfl⟩)
    · refine ⟨.well, rfl, .inl rfl, T', P', wid o (fun k hk => .inl hk), _, false, bx, S.cg.kept o.fr (fun e => e.elim nbg (fun e => hne e.symm)), .inl ⟨rfl, _, S.R.made md rc S.hbt, .inl ⟨rfl, n4, u, us, rfl, rfl⟩⟩⟩
    · exact ⟨.errno 60, How.ended_one _ _, .inr ⟨60, rfl⟩, T', P', OnxX.of o, 0, false, S.ca.kept o.fr nba, S.cg.kept o.fr nbg, .inr ⟨60, rfl, .inr (.inl ⟨.inl rfl, rfl⟩)⟩⟩
    · exact ⟨.errno 5, How.ended_one _ _, .inr ⟨5, rfl⟩, T, [], OnxX.of (Onx.start S.hp.st), 0, false, S.ca, S.cg, .inr ⟨5, rfl, .inl ⟨rfl, n4, rfl⟩⟩⟩
  · by_cases h3 : kd = 3
    · subst h3
      refine (pyC3 S).mono ?_
      rintro e w' ⟨rfl | rfl, T', P', o⟩
      · exact ⟨.errno 61, How.ended_one _ _, .inr ⟨61, rfl⟩, T', P', OnxX.of o, 0, false, S.ca.kept o.fr nba, S.cg.kept o.fr nbg, .inr ⟨61, rfl, .inr (.inr ⟨rfl, rfl⟩)⟩⟩
      · exact ⟨.errno 60, How.ended_one _ _, .inr ⟨60, rfl⟩, T', P', OnxX.of o, 0, false, S.ca.kept o.fr nba, S.cg.kept o.fr nbg, .inr ⟨60, rfl, .inr (.inl ⟨.inr rfl, rfl⟩)⟩⟩
    · by_cases he : rs = []
      · subst he
        refine (pyCe S h0 h3).mono ?_
        rintro e w' ⟨rfl, rfl⟩
        exact ⟨.well, rfl, .inl rfl, T, [], OnxX.of (Onx.start S.hp.st), 0, false, S.ca, S.cg, .inl ⟨rfl, [], S.R, .inr (.inr (.inr ⟨h0, h3, rfl, rfl⟩))⟩⟩
      · have kl := S.kl he
        obtain ⟨r, hr⟩ : ∃ r, rs[kx]? = some r := ⟨_, List.getElem?_eq_getElem (l := rs) (i := kx) kl⟩
        have hm := List.mem_of_getElem? hr
        have kb := S.kb r hm
        by_cases h1 : kd = 1
        · subst h1
          refine (pyC1 S hr).mono ?_
          rintro e w' ⟨rfl, T', P', o, eg, _⟩
          have R' := S.R.setk hr (r.k + 1) (by omega) (by omega)
          rw [← eg] at R'
          exact ⟨.well, rfl, .inl rfl, T', P', OnxX.of o, 0, false, S.ca.kept o.fr nba, S.cg.kept o.fr nbg, .inl ⟨rfl, _, R', .inr (.inl ⟨rfl, r, hr, rfl⟩)⟩⟩
        · refine (pyC2 S hr h0 h3 h1).mono ?_
          rintro e w' ⟨rfl, g, T', P', o, bx, d⟩
          have ca' := S.ca.kept o.fr (fun e => e.elim nba hne)
          rcases d with ⟨rfl, k1, d⟩ | ⟨rfl, k2, d⟩
          · exact ⟨.well, rfl, .inl rfl, T', P', wid o (fun k hk => .inr hk), 0, true, ca', bx, .inl ⟨rfl, _, S.R.gone hr d, .inr (.inr (.inl ⟨h0, h1, h3, r, hr, .inl ⟨rfl, k1, rfl⟩⟩))⟩⟩
          · have R' := S.R.setk hr (r.k - 1) (by omega) (by omega)
            rw [← d] at R'
            exact ⟨.well, rfl, .inl rfl, T', P', wid o (fun k hk => .inr hk), 0, false, ca', bx, .inl ⟨rfl, _, R', .inr (.inr (.inl ⟨h0, h1, h3, r, hr, .inr ⟨rfl, k2, rfl⟩⟩))⟩⟩

theorem py_do (hc : HpC nu sz w0 X w hb sb b T A N True s base) (hX : X ba ∧ X bg) (hne : ba ≠ bg) (hh : hb ≠ ba ∧ hb ≠ bg) (W : ∀ w3, Still w w3 → PyW nu sz w3 hb sb b T A [] bo bs bh bw ba bl bk bg kd rs ad cp kx wa n wc bt) (hs : s + 30729 < 4294967296) :
    Calls Tryz.prog 11 #[ptr sb, .func (.func 12) #[] #[ptr bo, ptr bs, ptr bh, ptr bw, ptr ba, ptr bl, ptr bk, ptr bg]] w fun e w' => Fr (fun k => tfoot sb b T k ∨ k = ba ∨ k = bg) w w' ∧ ∃ (c at_ : Int) (g : Bool) (T' : Tay) (A' : Ab) (base' : Nat → Int), e = .returned (.int .i64 c) ∧ Box w' ba (.int .i64 at_) ∧ Box w' bg (.bool g) ∧ HpC nu sz w0 X w' hb sb b T' A' N True (s + 30729) base' ∧
      ((c = 0 ∧ ∃ rs', Recs nu sz (rb base') rs' ∧ KWell nu rs kx kd n bt at_ g rs') ∨ (base' = base ∧ KErr kd n c)) := by
  have DO := hc.do_ (V := fun k => k = ba ∨ k = bg) (g := 12) (fi := #[]) (ca := #[ptr bo, ptr bs, ptr bh, ptr bw, ptr ba, ptr bl, ptr bk, ptr bg]) (R := KR nu sz A rs kx kd n bt ba bg) (fun k hk => by rcases hk with rfl | rfl; exact hX.1; exact hX.2) (fun e => e.elim hh.1 hh.2) (KR_stays nu sz A rs kx kd n bt ba bg) (fun w3 f3 => acts_of (fun _ _ => by kernel_rfl) (py_acts (W w3 f3) hne)) hs
  unfold DidH at DO
  refine DO.mono ?_
  rintro e w' ⟨fr, ⟨P', T', A', ⟨a, g, b1, b2, t⟩, rfl, hc'⟩ | ⟨i, P', T', ⟨a, g, b1, b2, t⟩, rfl, hc'⟩⟩
  · rcases t with ⟨_, rs', R', kw⟩ | ⟨i, hi, _⟩
    · rw [hc.says P'] at R'
      exact ⟨fr, 0, a, g, T', A', _, rfl, b1, b2, hc', .inl ⟨rfl, rs', R', kw⟩⟩
    · exact (well_errno hi).elim
  · rcases t with ⟨hi, _⟩ | ⟨j, hj, ke⟩
    · exact (well_errno hi.symm).elim
    · have := errno_inj hj
      subst this
      exact ⟨fr, i, a, g, T', A, base, rfl, b1, b2, hc'.slow (by omega), .inr ⟨rfl, ke⟩⟩
end
end

section
structure OpR where
  kd : Int
  i : Int
  a : Option Addr
  n : Nat
  c : Nat
  bt : Nat → Nat
def OpsR (w : World) (a : Option Addr) (len : Nat) (z : Nat → OpR) : Prop :=
  ∀ k, k < len → (∃ xb xo, a = some ⟨xb, xo, none⟩ ∧ w.cell? ⟨xb, xo + k * 3, none⟩ = some (.int .i64 (z k).kd) ∧ w.cell? ⟨xb, xo + k * 3 + 1, none⟩ = some (.int .i64 (z k).i) ∧ w.cell? ⟨xb, xo + k * 3 + 2, none⟩ = some (.slice (z k).a (z k).n (z k).c)) ∧ Nats .u8 w (z k).a (z k).n (z k).bt ∧ (∀ i, i < (z k).n → (z k).bt i < 256) ∧ ((z k).a = none → (z k).n = 0 ∧ (z k).c = 0)

section
variable {H : Type} {enc : TypeId × Value → H} {P : Program} {w : World} {base : Nat} {held : Bool}

theorem three_cellsR {e : TypeId} {f0 f1 f2 : Field} {n : Nat} {y : Addr} {k : Nat} {d : DataW H × List MemPlace} {cs : List Value} (he : P.underlying e = some (.struct #[f0, f1, f2]))
    (o0 : f0.offset = 0) (o1 : f1.offset = 1) (o2 : f2.offset = 2) (c0 : P.cellsOf f0.type = 1) (c1 : P.cellsOf f1.type = 1) (c2 : P.cellsOf f2.type = 1)
    (h1 : w.cells? base (y.add (k * 3)) 3 = some cs) (h2 : DataW.trod enc P w base (fun _ => true) held n e cs = some d) :
    ∃ (v0 v1 v2 : Value) (q : Nat) (y0 y1 y2 : DataW H × List MemPlace), w.cell? (y.add (k * 3)) = some v0 ∧ w.cell? (y.add (k * 3 + 1)) = some v1 ∧ w.cell? (y.add (k * 3 + 2)) = some v2 ∧
      DataW.trod enc P w base (fun _ => true) held q f0.type [v0] = some y0 ∧ DataW.trod enc P w base (fun _ => true) held q f1.type [v1] = some y1 ∧ DataW.trod enc P w base (fun _ => true) held q f2.type [v2] = some y2 := by
  obtain ⟨_, hlen, hcell⟩ := World.cells?_some h1
  obtain ⟨xs, q, hq, hxy, _, hxl, hf⟩ := DataW.trod_struct he h2
  match xs, hxl, cs, hlen with
  | [y0, y1, y2], _, [v0, v1, v2], _ =>
    have g0 := hf 0 f0 rfl
    have g1 := hf 1 f1 rfl
    have g2 := hf 2 f2 rfl
    simp [o0, o1, o2, c0, c1, c2] at g0 g1 g2
    have e0 := hcell 0 (by omega)
    have e1 := hcell 1 (by omega)
    have e2 := hcell 2 (by omega)
    rw [Go.Deep.add_add] at e0 e1 e2
    exact ⟨v0, v1, v2, q, y0, y1, y2, by simpa using e0, by simpa using e1, by simpa using e2, g0, g1, g2⟩

theorem wf8R (a : Int) (h : (Lit.int .u8 a).wf = true) : 0 ≤ a ∧ a < 256 := by
  simp [Lit.wf, IntKind.min, IntKind.max, IntKind.signed, IntKind.bits] at h
  omega
end

section
variable {H : Type} {enc : TypeId × Value → H} {w : World} {base : Nat} {held : Bool}

theorem in_bytesR {fuel : Nat} {v : Value} {x : DataW H × List MemPlace} (h : DataW.trod enc Tryz.prog w base (fun _ => true) held fuel 30 [v] = some x) :
    ∃ a n c bt, v = .slice a n c ∧ Nats .u8 w a n bt ∧ (∀ i, i < n → bt i < 256) ∧ (a = none → n = 0 ∧ c = 0) := by
  rcases Go.ChangeShapes.open_ints Tryz.underlying30 Tryz.underlying5 (by kernel_rfl) h with ⟨hcs, _⟩ | ⟨y, l, c, zs, hcs, _, hl, hm, hz, _, hcell, hwz⟩
  · simp at hcs
    exact ⟨none, 0, 0, fun _ => 0, hcs, fun k hk => by omega, fun k hk => by omega, fun _ => ⟨rfl, rfl⟩⟩
  · simp at hcs
    have hzl : zs.length = c := by simpa using hz
    have hin : ∀ i, i < l → 0 ≤ zs.getD i 0 ∧ zs.getD i 0 < 256 := fun i hi => wf8R _ (hwz _ (by
      have e : zs.getD i 0 = zs[i]'(by omega) := by simp [show i < zs.length by omega]
      rw [e]; exact List.getElem_mem _))
    refine ⟨some y, l, c, fun i => (zs.getD i 0).toNat, hcs, fun k hk => ?_, fun i hi => by (have := hin i hi; show (zs.getD i 0).toNat < 256; omega), fun e => by cases e⟩
    have ck := hcell k (by omega)
    obtain ⟨xb, xo, sp⟩ := y
    cases sp with
    | none =>
      refine ⟨xb, xo, rfl, ?_⟩
      rw [add_none] at ck
      rw [ck, Int.toNat_of_nonneg (hin k hk).1]
    | some q =>
      exfalso
      have c0 := hcell 0 (by omega)
      have hadd : (⟨xb, xo, some q⟩ : Addr).add 0 = ⟨xb, xo, some q⟩ := by unfold Addr.add; split <;> simp_all
      rw [hadd] at c0
      simp only [World.cell?] at c0
      split at c0
      · simp at c0
      · simp at c0

theorem in_opsR {fuel : Nat} {a : Option Addr} {len cap : Nat} {x : DataW H × List MemPlace} (h : DataW.trod enc Tryz.prog w base (fun _ => true) held fuel 22 [.slice a len cap] = some x) :
    ∃ z, OpsR w a len z ∧ len ≤ maxLen := by
  rcases Go.Deep.open_slice Tryz.underlying22 h with ⟨hcs, rfl⟩ | ⟨y, l, c, m, n, D, Pl, hcs, _, hl, hm, hmm, rfl, hx⟩
  · simp at hcs
    obtain ⟨rfl, rfl, rfl⟩ := hcs
    exact ⟨fun _ => ⟨0, 0, none, 0, 0, fun _ => 0⟩, fun k hk => by omega, Nat.zero_le _⟩
  · simp at hcs
    obtain ⟨rfl, rfl, rfl⟩ := hcs
    have hlm : len ≤ m := by rw [hmm]; split <;> omega
    have ce : Tryz.prog.cellsOf 32 = 3 := by kernel_rfl
    rw [ce] at hx
    have each : ∀ k, k < len → ∃ z : OpR, (w.cell? (y.add (k * 3)) = some (.int .i64 z.kd) ∧ w.cell? (y.add (k * 3 + 1)) = some (.int .i64 z.i) ∧ w.cell? (y.add (k * 3 + 2)) = some (.slice z.a z.n z.c)) ∧ Nats .u8 w z.a z.n z.bt ∧ (∀ i, i < z.n → z.bt i < 256) ∧ (z.a = none → z.n = 0 ∧ z.c = 0) := by
      intro k hk
      obtain ⟨cs', h1, h2⟩ := hx k (by omega)
      obtain ⟨v0, v1, v2, q, y0, y1, y2, e0, e1, e2, g0, g1, g2⟩ := three_cellsR Tryz.underlying32 rfl rfl rfl (by kernel_rfl) (by kernel_rfl) (by kernel_rfl) h1 h2
      obtain ⟨n0, hn0, _⟩ := DataW.trod_int Tryz.underlying3 g0
      obtain ⟨n1, hn1, _⟩ := DataW.trod_int Tryz.underlying3 g1
      obtain ⟨da, dn, dc, bt, hv, hN, hb, hnil⟩ := in_bytesR g2
      simp at hn0 hn1
      exact ⟨⟨n0, n1, da, dn, dc, bt⟩, ⟨by rw [e0, hn0], by rw [e1, hn1], by rw [e2, hv]⟩, hN, hb, hnil⟩
    have hz : ∃ z : Nat → OpR, ∀ k, k < len → (w.cell? (y.add (k * 3)) = some (.int .i64 (z k).kd) ∧ w.cell? (y.add (k * 3 + 1)) = some (.int .i64 (z k).i) ∧ w.cell? (y.add (k * 3 + 2)) = some (.slice (z k).a (z k).n (z k).c)) ∧ Nats .u8 w (z k).a (z k).n (z k).bt ∧ (∀ i, i < (z k).n → (z k).bt i < 256) ∧ ((z k).a = none → (z k).n = 0 ∧ (z k).c = 0) := by
      classical
      refine ⟨fun k => if hk : k < len then Classical.choose (each k hk) else ⟨0, 0, none, 0, 0, fun _ => 0⟩, fun k hk => ?_⟩
      simp only [dif_pos hk]
      exact Classical.choose_spec (each k hk)
    obtain ⟨z, hz⟩ := hz
    refine ⟨z, fun k hk => ⟨?_, (hz k hk).2⟩, Nat.le_trans hl hm⟩
    obtain ⟨xb, xo, sp⟩ := y
    cases sp with
    | none =>
      have e := (hz k hk).1
      rw [add_none, add_none, add_none] at e
      exact ⟨xb, xo, rfl, e.1, by rw [Nat.add_assoc]; exact e.2.1, by rw [Nat.add_assoc]; exact e.2.2⟩
    | some q =>
      exfalso
      have c0 := (hz 0 (by omega)).1.1
      have hadd : (⟨xb, xo, some q⟩ : Addr).add (0 * 3) = ⟨xb, xo, some q⟩ := by unfold Addr.add; split <;> simp_all
      rw [hadd] at c0
      simp only [World.cell?] at c0
      split at c0
      · simp at c0
      · simp at c0
end
end

section
theorem info_u8E : ∃ i, Tryz.prog.info? 5 = some i ∧ i.zero = some (.int .u8 0) ∧ i.size = 1 ∧ i.bytes = 1 := by
  have hi := infoB
  cases h : Tryz.prog.info? 5 with
  | none => rw [h] at hi; simp at hi
  | some i => rw [h] at hi; simp only [Option.map_some, Option.some.injEq, Prod.mk.injEq] at hi; exact ⟨i, rfl, hi⟩

theorem run_bytes (w : World) (lo : Nat) (xa : Option Addr) (n xc : Nat) (bt : Nat → Nat) (hx : xa = none → n = 0 ∧ xc = 0) (hN : Nats .u8 w xa n bt) (hn : n ≤ 100000) (hlo : lo ≤ w.heap.size) :
    ∃ v' w', (Builtin.append_ #[30, 30] 30 #[.slice (some ⟨w.heap.size, 0, none⟩) 0 0, .slice xa n xc]).run Tryz.prog (w.alloc (.cells #[] 5)) = .ok v' w' ∧ OwnL .u8 5 w' lo v' (rowL bt n) ∧ Still w w' ∧ w.heap.size < w'.heap.size ∧ ∀ k, v'.ownBlock = some k → w.heap.size ≤ k := by
  obtain ⟨i, hi, hz, hsize, hby⟩ := info_u8E
  have fA : Still w (w.alloc (.cells #[] 5)) := (Fr.refl _ w).alloc _
  have zA : (w.alloc (.cells #[] 5)).heap.size = w.heap.size + 1 := by simp
  have own0 : (w.alloc (.cells #[] 5)).ownsRow lo 5 1 (.slice (some ⟨w.heap.size, 0, none⟩) 0 0) 0 [] :=
    ⟨rfl, .inr ⟨w.heap.size, 0, #[], rfl, hlo, heap_alloc_new w _, Nat.le_refl _, by unfold maxLen; omega, rfl, rfl⟩⟩
  cases xa with
  | none =>
    obtain ⟨rfl, rfl⟩ := hx rfl
    refine ⟨_, _, run_append_owned_none (P := Tryz.prog) (w := w.alloc (.cells #[] 5)) lo 30 30 5 i 1 Tryz.underlying30 hi _ _ _ own0, own0, fA, by omega, fun k hk => by simp [Value.ownBlock] at hk; omega⟩
  | some ad =>
    have hc : ∀ j u, (vals .u8 (rowL bt n))[j]? = some u → (w.alloc (.cells #[] 5)).cell? (ad.add j) = some u := fun j u hu => by
      have hj : j < n := by have := (List.getElem?_eq_some_iff.1 hu).1; simpa [vals, rowL] using this
      obtain ⟨xb, xo, e, c⟩ := hN j hj
      cases e
      rw [add_none]
      refine (fA.cell' c (fun x => x)).trans ?_
      rw [← hu]; simp [vals, rowL, hj]
    obtain ⟨v', w', hr, h2, h3, _, h5⟩ := run_append_own_at (P := Tryz.prog) (w.alloc (.cells #[] 5)) lo 30 30 5 i (.int .u8 0) 1 1 Tryz.underlying30 hi hz hsize hby rfl (by decide) _ 0 [] own0 ad n xc (vals .u8 (rowL bt n)) (by simp [vals, rowL]) hc (fun u hu => by simp [vals] at hu; obtain ⟨a, _, rfl⟩ := hu; rfl) (by unfold maxLen; omega) (by omega) (by omega)
    refine ⟨v', w', hr, ?_, ?_, ?_, fun k hk => ?_⟩
    · unfold OwnL
      rw [show (rowL bt n).length = 0 + n by simp [rowL]]
      simpa using h2
    · have : Fr (fun j => (Value.slice (some ⟨w.heap.size, 0, none⟩) 0 0).ownBlock = some j) (w.alloc (.cells #[] 5)) w' := (Fr.refl _ _).grown h3 (fun r e => .inl e)
      exact fA.trans' this (fun j hj => .inr (by simp [Value.ownBlock] at hj; omega))
    · have := h3.size; omega
    · rcases h5 with e | e
      · rw [hk] at e; simp [Value.ownBlock] at e; omega
      · rw [hk] at e; have := Option.some.inj e; omega

def PyX (hb n1 n3 : Nat) (vl : Value) : Nat → Prop := fun k => k = hb ∨ k = n1 ∨ k = n1 + 1 ∨ k = n3 ∨ vl.ownBlock = some k
structure PyH (w wr : World) (b n1 n3 hb sb : Nat) (T : Tay) (A : Ab) (s : Int) (base : Nat → Int) (rs : List Rc) (vl : Value) : Prop where
  hc : HpC 1467 12176 w (PyX hb n1 n3 vl) wr hb sb b T A 3072 True s base
  R : Recs 1467 12176 (rb base) rs
  cs : Box wr n1 (ptr sb)
  ch : Box wr (n1 + 1) (ptr hb)
  cl : Box wr n3 vl
  rl : wr.ownsRow w.heap.size 38 3 vl rs.length (rcells 1467 rs)
  d1 : w.heap.size ≤ n1 ∧ n1 + 1 < n3 ∧ hb < n1
  d3 : ∀ k, vl.ownBlock = some k → n3 < k
def PyY (hb n1 n3 : Nat) (vl : Value) (q bk ba bg : Nat) (vn : Value) : Nat → Prop := fun k => PyX hb n1 n3 vl k ∨ k = q ∨ k = bk ∨ k = ba ∨ k = bg ∨ vn.ownBlock = some k
structure PyI (w wq : World) (b n1 n3 hb sb : Nat) (T : Tay) (A : Ab) (s : Int) (base : Nat → Int) (rs : List Rc) (vl : Value) (q bk ba bg : Nat) (vn : Value) (nw : List Rc) (z : OpR) (kx : Nat) (at_ : Int) (g : Bool) : Prop where
  hc : HpC 1467 12176 w (PyY hb n1 n3 vl q bk ba bg vn) wq hb sb b T A 3072 True s base
  cs : Box wq n1 (ptr sb)
  ch : Box wq (n1 + 1) (ptr hb)
  cl : Box wq n3 vl
  rl : wq.ownsRow w.heap.size 38 3 vl rs.length (rcells 1467 rs)
  oc : wq.heap[q]? = some (.cells #[.int .i64 z.kd, .int .i64 z.i, .slice z.a z.n z.c] 32 (0, 0))
  nr : wq.ownsRow w.heap.size 38 3 vn nw.length (rcells 1467 nw)
  ck : Box wq bk (.int .i64 kx)
  ca : Box wq ba (.int .i64 at_)
  cg : Box wq bg (.bool g)
  d1 : w.heap.size ≤ n1 ∧ n1 + 1 < n3 ∧ hb < n1 ∧ n3 < q ∧ q < bk ∧ bk < ba ∧ ba < bg
  d3 : ∀ k, vl.ownBlock = some k → n3 < k ∧ k < q
  d4 : ∀ k, vn.ownBlock = some k → q < k ∧ k ≠ bk ∧ k ≠ ba ∧ k ≠ bg

section
variable {w wq w' : World} {b n1 n3 hb sb : Nat} {T T' : Tay} {A A' : Ab} {s s' : Int} {base base' : Nat → Int} {rs nw : List Rc} {vl vn : Value} {q bk ba bg : Nat} {z : OpR} {kx : Nat} {at_ at' : Int} {g g' : Bool}

theorem PyI.did (S : PyI w wq b n1 n3 hb sb T A s base rs vl q bk ba bg vn nw z kx at_ g) {F : Nat → Prop} (fr : Fr F wq w') (hF : ∀ k, PyY hb n1 n3 vl q bk ba bg vn k → k ≠ ba → k ≠ bg → ¬ F k) (hc' : HpC 1467 12176 w (PyY hb n1 n3 vl q bk ba bg vn) w' hb sb b T' A' 3072 True s' base') (ca : Box w' ba (.int .i64 at')) (cg : Box w' bg (.bool g')) :
    PyI w w' b n1 n3 hb sb T' A' s' base' rs vl q bk ba bg vn nw z kx at' g' := by
  obtain ⟨e1, e2, e3, e4, e5, e6, e7⟩ := S.d1
  refine ⟨hc', S.cs.kept fr (hF _ (.inl (.inr (.inl rfl))) (by omega) (by omega)), S.ch.kept fr (hF _ (.inl (.inr (.inr (.inl rfl)))) (by omega) (by omega)), S.cl.kept fr (hF _ (.inl (.inr (.inr (.inr (.inl rfl))))) (by omega) (by omega)), row_kept S.rl fr (fun k hk => hF k (.inl (.inr (.inr (.inr (.inr hk))))) (by have := S.d3 k hk; omega) (by have := S.d3 k hk; omega)), (fr.block q (Array.getElem?_eq_some_iff.1 S.oc).1 (hF q (.inr (.inl rfl)) (by omega) (by omega))).trans S.oc, row_kept S.nr fr (fun k hk => hF k (.inr (.inr (.inr (.inr (.inr hk))))) (S.d4 k hk).2.2.1 (S.d4 k hk).2.2.2), S.ck.kept fr (hF _ (.inr (.inr (.inl rfl))) (by omega) (by omega)), ca, cg, S.d1, S.d3, S.d4⟩

theorem PyI.now {vn' : Value} {nw' : List Rc} {F : Nat → Prop} (S : PyI w wq b n1 n3 hb sb T A s base rs vl q bk ba bg vn nw z kx at_ g) (fr : Fr F wq w') (hF : ∀ k, F k → vn.ownBlock = some k) (nr : w'.ownsRow w.heap.size 38 3 vn' nw'.length (rcells 1467 nw')) (loc : ∀ k, vn'.ownBlock = some k → vn.ownBlock = some k ∨ wq.heap.size ≤ k) :
    PyI w w' b n1 n3 hb sb T A s base rs vl q bk ba bg vn' nw' z kx at_ g := by
  obtain ⟨e1, e2, e3, e4, e5, e6, e7⟩ := S.d1
  have nf : ∀ k, k ≤ q ∨ k = bk ∨ k = ba ∨ k = bg → ¬ F k := fun k hk hf => by have := S.d4 k (hF k hf); omega
  have lbg := S.cg.lt
  have hc' := S.hc.grow (Y := PyY hb n1 n3 vl q bk ba bg vn') fr (fun k hk => .inr (.inr (.inr (.inr (.inr (hF k hk)))))) (nf hb (by omega)) (fun k hk => by
    rcases hk with hk | hk | hk | hk | hk | hk
    · exact .inl (.inl hk)
    · exact .inl (.inr (.inl hk))
    · exact .inl (.inr (.inr (.inl hk)))
    · exact .inl (.inr (.inr (.inr (.inl hk))))
    · exact .inl (.inr (.inr (.inr (.inr (.inl hk)))))
    · rcases loc k hk with e | e
      · exact .inl (.inr (.inr (.inr (.inr (.inr e)))))
      · exact .inr ⟨e, (nr.lt k hk).2⟩) (.inl (.inl rfl))
  refine ⟨hc', S.cs.kept fr (nf _ (by omega)), S.ch.kept fr (nf _ (by omega)), S.cl.kept fr (nf _ (by omega)), row_kept S.rl fr (fun k hk => nf k (by have := S.d3 k hk; omega)), (fr.block q (Array.getElem?_eq_some_iff.1 S.oc).1 (nf q (by omega))).trans S.oc, nr, S.ck.kept fr (nf bk (by simp)), S.ca.kept fr (nf ba (by simp)), S.cg.kept fr (nf bg (by simp)), S.d1, S.d3, fun k hk => ?_⟩
  rcases loc k hk with e | e
  · exact S.d4 k e
  · omega

theorem PyI.drop (S : PyI w wq b n1 n3 hb sb T A s base rs vl q bk ba bg vn nw z kx at_ g) (R : Recs 1467 12176 (rb base) rs) : PyH w wq b n1 n3 hb sb T A s base rs vl :=
  ⟨S.hc.sub (fun _ hk => .inl hk) (.inl rfl), R, S.cs, S.ch, S.cl, S.rl, ⟨S.d1.1, S.d1.2.1, S.d1.2.2.1⟩, fun k hk => (S.d3 k hk).1⟩
theorem PyI.take (S : PyI w wq b n1 n3 hb sb T A s base rs vl q bk ba bg vn nw z kx at_ g) (R : Recs 1467 12176 (rb base) nw) : PyH w (wq.setCell ⟨n3, 0, none⟩ vn) b n1 n3 hb sb T A s base nw vn := by
  obtain ⟨e1, e2, e3, e4, e5, e6, e7⟩ := S.d1
  have f : Fr (fun r => r = n3) wq (wq.setCell ⟨n3, 0, none⟩ vn) := Fr.box wq n3 vn
  have nf : ∀ k, k ≠ n3 → ¬ (fun r => r = n3) k := fun k h e => h e
  refine ⟨(S.hc.var f (fun k hk => .inl (.inr (.inr (.inr (.inl hk))))) (nf hb (by omega))).sub (fun k hk => ?_) (.inl rfl), R, S.cs.kept f (nf _ (by omega)), S.ch.kept f (nf _ (by omega)), S.cl.set vn, row_kept S.nr f (fun k hk => nf k (by have := S.d4 k hk; omega)), ⟨e1, e2, e3⟩, fun k hk => by have := S.d4 k hk; omega⟩
  rcases hk with hk | hk | hk | hk | hk
  · exact .inl (.inl hk)
  · exact .inl (.inr (.inl hk))
  · exact .inl (.inr (.inr (.inl hk)))
  · exact .inl (.inr (.inr (.inr (.inl hk))))
  · exact .inr (.inr (.inr (.inr (.inr hk))))
theorem PyH.after (S : PyH w wq b n1 n3 hb sb T A s base rs vl) (fr : Fr (tfoot sb b T) wq w') (hc' : HpC 1467 12176 w (PyX hb n1 n3 vl) w' hb sb b T' A' 3072 True s' base) : PyH w w' b n1 n3 hb sb T' A' s' base rs vl :=
  ⟨hc', S.R, S.cs.kept fr (S.hc.hd.ap _ (.inr (.inl rfl))), S.ch.kept fr (S.hc.hd.ap _ (.inr (.inr (.inl rfl)))), S.cl.kept fr (S.hc.hd.ap _ (.inr (.inr (.inr (.inl rfl))))), row_kept S.rl fr (fun k hk => S.hc.hd.ap k (.inr (.inr (.inr (.inr hk))))), S.d1, S.d3⟩
end
end
end Go.Proofs.YtflnaiijdpihcaaGreatDoor
