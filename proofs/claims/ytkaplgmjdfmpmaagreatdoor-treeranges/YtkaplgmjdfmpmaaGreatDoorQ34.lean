/- Joined: Kt. -/
import Derived.Test.YtkaplgmjdfmpmaaGreatDoorQ05
import Derived.Test.YtkaplgmjdfmpmaaGreatDoorQ31
import Derived.Test.YtkaplgmjdfmpmaaGreatDoorQ32
import Derived.Test.YtkaplgmjdfmpmaaGreatDoorQ33
namespace Go.Proofs.YtkaplgmjdfmpmaaGreatDoor
open Go.RowKit

section
structure RtL (w : World) (br r : Nat) (v : Value) : Prop where
  o : w.heap[br]? = some (.cells #[.int .u64 (r : Nat), v] 35 (0, 0))
theorem RtL.lt {w : World} {br r : Nat} {v : Value} (h : RtL w br r v) : br < w.heap.size := (Array.getElem?_eq_some_iff.1 h.o).1
theorem RtL.kept {w w' : World} {F : Nat → Prop} {br r : Nat} {v : Value} (h : RtL w br r v) (f : Fr F w w') (n : ¬ F br) : RtL w' br r v := ⟨f.obj h.o n⟩
theorem sl_rootV (w W : World) (r : Nat) (v : Value) (h1 : v.oneCell' = true) (hW : w.alloc (.cells #[.int .u64 (r : Nat), v] 35) = W) : Sl W 2 (some ⟨w.heap.size, 0, none⟩) ([(r, v)] : List (Nat × Value)).length 1 (rtcl [(r, v)]) := by
  have o : W.heap[w.heap.size]? = some (.cells #[.int .u64 (r : Nat), v] 35 (0, 0)) := hW ▸ heap_alloc_new w _
  exact ⟨rfl, Nat.le_refl _, (fun e => by cases e), (fun u hu => by
    simp only [rtcl, List.mem_cons, List.not_mem_nil, or_false] at hu
    rcases hu with rfl | rfl
    · rfl
    · exact h1), (fun j u hu => ⟨w.heap.size, 0, rfl, by
    rw [Nat.zero_add, cell_of_obj o j, ← hu]
    simp [rtcl]⟩), (fun x e => by cases e; rfl)⟩
theorem with_put (a : Option Addr) (c : Nat) (l : List Pr) (x : ByteArray) (v : Nat) (w : World) (h : Lf w a c l) (hl : l.length ≤ 500) (ri : Rise l) :
    Calls Tryz.prog 31 #[.slice a l.length c, .agg #[.string x, .int .u64 (v : Nat)], .bool false] w fun e w' => ∃ u, e = .returned u ∧ w'.ownsRow w.heap.size 43 2 u (putP l x v).length (pcl (putP l x v)) ∧ Still w w' := by
  obtain ⟨k, fk⟩ := fst_of x (l.map (·.1)) ri.keys
  have hk : k ≤ l.length := by have := fk.le; simpa using this
  have e := putL_putP (v := v) fk rfl
  have := l11_with a c l x v k _ false w h hl hk (fun t ht => by rw [← keys_getD l t (by omega)]; exact fk.lo t ht) (fun hlt => by rw [← keys_getD l k hlt]; exact fk.hi k (Nat.le_refl _) (by simpa using hlt)) rfl
  rw [show wthL l k _ x v false = putP l x v from e] at this
  exact this
def PutL (nu sz : Nat) (w : World) (sb b : Nat) (T : Tay) (A : Ab) (br : Nat) (L' : List Pr) (w' : World) : Prop :=
  ∃ T' P' r' Q' v', OnxX (fun k => k = br) w sb b T w' T' sz A P' false ∧ RtL w' br r' v' ∧ w'.ownsRow w.heap.size 43 2 v' L'.length (pcl L') ∧ (∀ k, v'.ownBlock = some k → ¬ tfoot sb b T' k) ∧ ¬ tfoot sb b T' br ∧ Tre nu sz (says P' A) r' L' Q'

section
variable {nu sz : Nat} {w w' w0 : World} {hb sb b bs bh br bl bi : Nat} {T : Tay} {A : Ab} {P : List (Int × Int)} {r i : Nat} {L : List Pr} {Q : List Nat}
set_option maxRecDepth 20000 in
set_option maxHeartbeats 4000000 in
theorem trC1 (h : Hp nu sz w hb sb b T A P) (t : Tre nu sz (says P A) r L Q) (hl : L.length ≤ 130) (hP : P.length ≤ 100) (hnu : 2 * L.length + 30 < nu / 4)
    (la : Option Addr) (lc : Nat) (hL : Lf w la lc L) (xa : Nat) (xo n cap : Nat) (x : ByteArray) (u : Nat) (hx : 1 ≤ x.size ∧ x.size ≤ 80) (hu : u < 18446744073709551616) (hin : i < n)
    (cs : w.cell? ⟨bs, 0, none⟩ = some (ptr sb)) (ch : w.cell? ⟨bh, 0, none⟩ = some (ptr hb)) (Br : RtL w br r (.slice la L.length lc)) (cl : w.cell? ⟨bl, 0, none⟩ = some (.slice (some ⟨xa, xo, none⟩) n cap)) (ci : w.cell? ⟨bi, 0, none⟩ = some (.int .i64 (i : Nat)))
    (ck : w.cell? ⟨xa, xo + i * 3 + 1, none⟩ = some (.string x)) (cv : w.cell? ⟨xa, xo + i * 3 + 2, none⟩ = some (.int .u64 (u : Nat)))
    (nt : ∀ k, k = bs ∨ k = bh ∨ k = br ∨ k = bl ∨ k = bi ∨ k = xa ∨ (∃ y, la = some y ∧ y.block = k) → ¬ tfoot sb b T k)
    (ne : bs ≠ br ∧ bh ≠ br ∧ bl ≠ br ∧ bi ≠ br ∧ xa ≠ br ∧ hb ≠ br ∧ 0 ≠ br) :
    Calls Tryz.prog 30 #[ptr bs, ptr bh, ptr br, ptr bl, ptr bi] w fun e w' => e = .returned (.tuple #[]) ∧ PutL nu sz w sb b T A br (putP L x u) w' := by
  have fD : Still w w.drew := (Fr.refl _ w).drewN 1
  have PUT : Calls Tryz.prog 11 #[ptr sb, ptr hb, .int .u64 (r : Nat), .string x, .int .u64 (u : Nat)] w.drew _ := y_Put (h.still fD) t.st t.rt t.pk t.ri (by omega) x u hx hu (by omega) (by have := t.cnt; omega) t.low
  have lbs : bs < w.heap.size := World.block_lt_of_cell? _ _ cs
  have lbh : bh < w.heap.size := World.block_lt_of_cell? _ _ ch
  have lbl : bl < w.heap.size := World.block_lt_of_cell? _ _ cl
  have lbi : bi < w.heap.size := World.block_lt_of_cell? _ _ ci
  have lxa : xa < w.heap.size := World.block_lt_of_cell? _ _ ck
  have lbr := Br.lt
  have cr : w.cell? ⟨br, 0, none⟩ = some (.int .u64 (r : Nat)) := cell_of_obj Br.o 0
  have cr' : w.cell? ⟨br, 1, none⟩ = some (.slice la L.length lc) := cell_of_obj Br.o 1
  have hin' : ((i : Int) < n) = True := by simp; omega
  have HP := hide PUT
  have HX := hide (And.intro h (And.intro t (And.intro hl (And.intro hP (And.intro hnu (And.intro Br (And.intro fD (And.intro hL (And.intro hx hu))))))))); have HNT := @hide _ nt
  clear PUT h t hl hP hnu Br nt fD hL hx hu
  go_enter Tryz.func30, Tryz.ntmps30
  go_wp2_with fail
  refine wp_region_held_drew (S := fun w' => w'.cell? ⟨bs, 0, none⟩ = some (ptr sb) ∧ w'.cell? ⟨bh, 0, none⟩ = some (ptr hb) ∧ w'.cell? ⟨bl, 0, none⟩ = some (.slice (some ⟨xa, xo, none⟩) n cap) ∧ w'.cell? ⟨bi, 0, none⟩ = some (.int .i64 (i : Nat)) ∧ w'.cell? ⟨xa, xo + i * 3 + 1, none⟩ = some (.string x) ∧ w'.cell? ⟨xa, xo + i * 3 + 2, none⟩ = some (.int .u64 (u : Nat))) (by kernel_rfl) ⟨cs, ch, cl, ci, ck, cv⟩ (fun hHeld => ?_)
  refine take_l 0 (v := ?_) rfl (by kernel_rfl) (by kernel_rfl) (by kernel_rfl) (fun _ _ _ h => h) (Or.inl ⟨by rfl, ?_⟩) hHeld ?_
  rotate_left
  · (intro w hSw; (try dsimp only at hSw); go_simp; (try with_reducible rfl))
  simp only [Act.put, List.setIfInBounds_toArray, List.set_cons_zero, List.set_cons_succ]
  refine take_l 1 (v := ?_) rfl (by kernel_rfl) (by kernel_rfl) (by kernel_rfl) (fun _ _ _ h => h) (Or.inl ⟨by rfl, ?_⟩) hHeld ?_
  rotate_left
  · (intro w hSw; (try dsimp only at hSw); go_simp; (try with_reducible rfl))
  simp only [Act.put, List.setIfInBounds_toArray, List.set_cons_zero, List.set_cons_succ]
  refine take_l 2 (v := ?_) rfl (by kernel_rfl) (by kernel_rfl) (by kernel_rfl) (fun _ _ _ h => h) (Or.inl ⟨by rfl, ?_⟩) hHeld ?_
  rotate_left
  · (intro w hSw; (try dsimp only at hSw); go_simp; (try with_reducible rfl))
  simp only [Act.put, List.setIfInBounds_toArray, List.set_cons_zero, List.set_cons_succ]
  refine take_l 4 (v := ?_) rfl (by kernel_rfl) (by kernel_rfl) (by kernel_rfl) (fun _ _ _ h => h) (Or.inl ⟨by rfl, ?_⟩) hHeld ?_
  rotate_left
  · (intro w hSw; (try dsimp only at hSw); go_simp; (try with_reducible rfl))
  simp only [Act.put, List.setIfInBounds_toArray, List.set_cons_zero, List.set_cons_succ]
  refine take_l 5 (v := ?_) rfl (by kernel_rfl) (by kernel_rfl) (by kernel_rfl) (fun _ _ _ h => h) (Or.inl ⟨by rfl, ?_⟩) hHeld ?_
  rotate_left
  · (intro w hSw; (try dsimp only at hSw); go_simp; (try with_reducible rfl))
  simp only [Act.put, List.setIfInBounds_toArray, List.set_cons_zero, List.set_cons_succ]
  refine take_l 6 (v := ?_) rfl (by kernel_rfl) (by kernel_rfl) (by kernel_rfl) (fun _ _ _ h => h) (Or.inl ⟨by rfl, ?_⟩) hHeld ?_
  rotate_left
  · (intro w hSw; (try dsimp only at hSw); go_simp; (try with_reducible rfl))
  simp only [Act.put, List.setIfInBounds_toArray, List.set_cons_zero, List.set_cons_succ]
  refine take_l 7 (v := ?_) rfl (by kernel_rfl) (by kernel_rfl) (by kernel_rfl) (fun _ _ _ h => h) (Or.inl ⟨by rfl, ?_⟩) hHeld ?_
  rotate_left
  · (intro w hSw; (try dsimp only at hSw); go_simp; (try with_reducible rfl))
  simp only [Act.put, List.setIfInBounds_toArray, List.set_cons_zero, List.set_cons_succ]
  refine take_l 8 (v := ?_) rfl (by kernel_rfl) (by kernel_rfl) (by kernel_rfl) (fun _ _ _ h => h) (Or.inl ⟨by rfl, ?_⟩) hHeld ?_
  rotate_left
  · (intro w hSw; (try dsimp only at hSw); go_simp; (try with_reducible rfl))
  simp only [Act.put, List.setIfInBounds_toArray, List.set_cons_zero, List.set_cons_succ]
  refine take_l 9 (v := ?_) rfl (by kernel_rfl) (by kernel_rfl) (by kernel_rfl) (fun _ _ _ h => h) (Or.inl ⟨by rfl, ?_⟩) hHeld ?_
  rotate_left
  · (intro w hSw; (try dsimp only at hSw); go_simp; (try with_reducible rfl))
  simp only [Act.put, List.setIfInBounds_toArray, List.set_cons_zero, List.set_cons_succ]
  refine take_l 10 (v := ?_) rfl (by kernel_rfl) (by kernel_rfl) (by kernel_rfl) (fun _ _ _ h => h) (Or.inl ⟨by rfl, ?_⟩) hHeld ?_
  rotate_left
  · (intro w hSw; (try dsimp only at hSw); go_simp; (try with_reducible rfl))
  simp only [Act.put, List.setIfInBounds_toArray, List.set_cons_zero, List.set_cons_succ]
  refine take_l 11 (v := ?_) rfl (by kernel_rfl) (by kernel_rfl) (by kernel_rfl) (fun _ _ _ h => h) (Or.inl ⟨by rfl, ?_⟩) hHeld ?_
  rotate_left
  · (intro w hSw; (try dsimp only at hSw); go_simp; (try with_reducible rfl))
  simp only [Act.put, List.setIfInBounds_toArray, List.set_cons_zero, List.set_cons_succ]
  refine take_l 12 (v := ?_) rfl (by kernel_rfl) (by kernel_rfl) (by kernel_rfl) (fun _ _ _ h => h) (Or.inl ⟨by rfl, ?_⟩) hHeld ?_
  rotate_left
  · (intro w hSw; (try dsimp only at hSw); go_simp; (try with_reducible rfl))
  simp only [Act.put, List.setIfInBounds_toArray, List.set_cons_zero, List.set_cons_succ]
  refine take_l 13 (v := ?_) rfl (by kernel_rfl) (by kernel_rfl) (by kernel_rfl) (fun _ _ _ h => h) (Or.inl ⟨by rfl, ?_⟩) hHeld ?_
  rotate_left
  · (intro w hSw; (try dsimp only at hSw); go_simp; (try with_reducible rfl))
  simp only [Act.put, List.setIfInBounds_toArray, List.set_cons_zero, List.set_cons_succ]
  refine take_l 15 (v := ?_) rfl (by kernel_rfl) (by kernel_rfl) (by kernel_rfl) (fun _ _ _ h => h) (Or.inl ⟨by rfl, ?_⟩) hHeld ?_
  rotate_left
  · (intro w hSw; (try dsimp only at hSw); go_simp; (try with_reducible rfl))
  simp only [Act.put, List.setIfInBounds_toArray, List.set_cons_zero, List.set_cons_succ]
  refine take_l 17 (v := ?_) rfl (by kernel_rfl) (by kernel_rfl) (by kernel_rfl) (fun _ _ _ h => h) (Or.inl ⟨by rfl, ?_⟩) hHeld ?_
  rotate_left
  · (intro w hSw; (try dsimp only at hSw); go_simp; (try with_reducible rfl))
  simp only [Act.put, List.setIfInBounds_toArray, List.set_cons_zero, List.set_cons_succ]
  refine take_l 18 (v := ?_) rfl (by kernel_rfl) (by kernel_rfl) (by kernel_rfl) (fun _ _ _ h => h) (Or.inl ⟨by rfl, ?_⟩) hHeld ?_
  rotate_left
  · (intro w hSw; (try dsimp only at hSw); go_simp; (try with_reducible rfl))
  simp only [Act.put, List.setIfInBounds_toArray, List.set_cons_zero, List.set_cons_succ]
  refine take_l 19 (v := ?_) rfl (by kernel_rfl) (by kernel_rfl) (by kernel_rfl) (fun _ _ _ h => h) (Or.inl ⟨by rfl, ?_⟩) hHeld ?_
  rotate_left
  · (intro w hSw; (try dsimp only at hSw); go_simp; (try with_reducible rfl))
  simp only [Act.put, List.setIfInBounds_toArray, List.set_cons_zero, List.set_cons_succ]
  refine take_l 20 (v := ?_) rfl (by kernel_rfl) (by kernel_rfl) (by kernel_rfl) (fun _ _ _ h => h) (Or.inl ⟨by rfl, ?_⟩) hHeld ?_
  rotate_left
  · (intro w hSw; (try dsimp only at hSw); go_simp; (try with_reducible rfl))
  simp only [Act.put, List.setIfInBounds_toArray, List.set_cons_zero, List.set_cons_succ]
  refine take_l 21 (v := ?_) rfl (by kernel_rfl) (by kernel_rfl) (by kernel_rfl) (fun _ _ _ h => h) (Or.inl ⟨by rfl, ?_⟩) hHeld ?_
  rotate_left
  · (intro w hSw; (try dsimp only at hSw); go_simp; (try with_reducible rfl))
  simp only [Act.put, List.setIfInBounds_toArray, List.set_cons_zero, List.set_cons_succ]
  refine take_l 22 (v := ?_) rfl (by kernel_rfl) (by kernel_rfl) (by kernel_rfl) (fun _ _ _ h => h) (Or.inl ⟨by rfl, ?_⟩) hHeld ?_
  rotate_left
  · (intro w hSw; (try dsimp only at hSw); go_simp; (try with_reducible rfl))
  simp only [Act.put, List.setIfInBounds_toArray, List.set_cons_zero, List.set_cons_succ]
  refine take_l 23 (v := ?_) rfl (by kernel_rfl) (by kernel_rfl) (by kernel_rfl) (fun _ _ _ h => h) (Or.inl ⟨by rfl, ?_⟩) hHeld ?_
  rotate_left
  · (intro w hSw; (try dsimp only at hSw); go_simp; (try with_reducible rfl))
  simp only [Act.put, List.setIfInBounds_toArray, List.set_cons_zero, List.set_cons_succ]
  refine take_l 24 (v := ?_) rfl (by kernel_rfl) (by kernel_rfl) (by kernel_rfl) (fun _ _ _ h => h) (Or.inl ⟨by rfl, ?_⟩) hHeld ?_
  rotate_left
  · (intro w hSw; (try dsimp only at hSw); go_simp; (try with_reducible rfl))
  simp only [Act.put, List.setIfInBounds_toArray, List.set_cons_zero, List.set_cons_succ]
  refine take_l 25 (v := ?_) rfl (by kernel_rfl) (by kernel_rfl) (by kernel_rfl) (fun _ _ _ h => h) (Or.inl ⟨by rfl, ?_⟩) hHeld ?_
  rotate_left
  · (intro w hSw; (try dsimp only at hSw); go_simp; (try with_reducible rfl))
  simp only [Act.put, List.setIfInBounds_toArray, List.set_cons_zero, List.set_cons_succ]
  refine take_l 26 (v := ?_) rfl (by kernel_rfl) (by kernel_rfl) (by kernel_rfl) (fun _ _ _ h => h) (Or.inl ⟨by rfl, ?_⟩) hHeld ?_
  rotate_left
  · (intro w hSw; (try dsimp only at hSw); go_simp; (try with_reducible rfl))
  simp only [Act.put, List.setIfInBounds_toArray, List.set_cons_zero, List.set_cons_succ]
  refine take_l 27 (v := ?_) rfl (by kernel_rfl) (by kernel_rfl) (by kernel_rfl) (fun _ _ _ h => h) (Or.inl ⟨by rfl, ?_⟩) hHeld ?_
  rotate_left
  · (intro w hSw; (try dsimp only at hSw); go_simp; (try with_reducible rfl))
  simp only [Act.put, List.setIfInBounds_toArray, List.set_cons_zero, List.set_cons_succ]
  refine wpAnyH_ready (rs := [3, 16]) (by kernel_rfl) (by simp) ?_
  refine AllReadyH.cons rfl (fun K hK => ?_) (AllReadyH.cons rfl (fun K hK => ?_) AllReadyH.nil)
  · go_simp
    refine hK.out _ _ hHeld (fun _ => ?_)
    clear hK K
    refine wpAnyH_ready (rs := [14, 16]) (by kernel_rfl) (by simp) ?_
    refine AllReadyH.cons rfl (fun K hK => ?_) (AllReadyH.cons rfl (fun K hK => ?_) AllReadyH.nil)
    · go_simp
      go_wp2_with fail
      refine (unhide HP).mono ?_
      clear HP
      rintro e w2 ⟨r', rfl, T2, P2, Q2, k2, hk2, o2, l2, ch2, hr2, rt2⟩
      obtain ⟨h, t, hl, hP, hnu, Br, fD, hL, hx, hu⟩ := unhide HX
      have h2 := (h.still fD).call o2
      have o02 : Onx w sb b T w2 T2 sz A P2 false := o2.after fD
      have hS2 : w2.cell? ⟨bs, 0, none⟩ = some (ptr sb) ∧ w2.cell? ⟨bh, 0, none⟩ = some (ptr hb) ∧ w2.cell? ⟨bl, 0, none⟩ = some (.slice (some ⟨xa, xo, none⟩) n cap) ∧ w2.cell? ⟨bi, 0, none⟩ = some (.int .i64 (i : Nat)) ∧ w2.cell? ⟨xa, xo + i * 3 + 1, none⟩ = some (.string x) ∧ w2.cell? ⟨xa, xo + i * 3 + 2, none⟩ = some (.int .u64 (u : Nat)) := ⟨o02.fr.cell' cs (unhide HNT bs (by simp)), o02.fr.cell' ch (unhide HNT bh (by simp)), o02.fr.cell' cl (unhide HNT bl (by simp)), o02.fr.cell' ci (unhide HNT bi (by simp)), o02.fr.cell' ck (unhide HNT xa (by simp)), o02.fr.cell' cv (unhide HNT xa (by simp))⟩
      have Br2 := Br.kept o02.fr (unhide HNT br (by simp))
      have cr2' : w2.cell? ⟨br, 1, none⟩ = some (.slice la L.length lc) := cell_of_obj Br2.o 1
      have hL2 : Lf w2 la lc L := hL.kept o02.fr (fun y hy => unhide HNT y.block (.inr (.inr (.inr (.inr (.inr (.inr ⟨y, hy, rfl⟩)))))))
      have WT := with_put la lc L x u w2 hL2 (by omega) t.ri
      have nt2 : ∀ k, k = bs ∨ k = bh ∨ k = br ∨ k = bl ∨ k = bi ∨ k = xa → ¬ tfoot sb b T2 k := fun k hk => o02.other (by rcases hk with rfl | rfl | rfl | rfl | rfl | rfl <;> assumption) (by rcases hk with e | e | e | e | e | e <;> exact unhide HNT k (by simp [e]))
      have ri2 : Rise (putP L x u) := putP_rise t.ri
      have pk2 : Pok (putP L x u) := t.pk.put hx hu
      have ln2 := putP_len x u L
      have few2 := ch2.few
      have cn := t.cnt
      have HWT := hide WT
      have HY := hide (And.intro h2 (And.intro o02 (And.intro Br2 (And.intro nt2 (And.intro ri2 (And.intro pk2 (And.intro rt2 (And.intro hr2 (And.intro ch2 (And.intro t (show L.length ≤ 130 ∧ P.length ≤ 100 ∧ 2 * L.length + 30 < nu / 4 ∧ (putP L x u).length ≤ L.length + 1 ∧ cnt nu (ask nu (says P2 A)) ≤ cnt nu (ask nu (says P A)) + 20 ∧ P2.length ≤ P.length + 1600 from ⟨hl, hP, hnu, ln2, by omega, l2⟩)))))))))))
      refine hK.out _ _ hS2 (fun _ => ?_)
      clear hK K WT h2 o02 o2 Br Br2 nt2 ri2 pk2 rt2 hr2 ch2 t hl hP hnu ln2 few2 cn l2 h hL hL2 hx hu fD hk2 HX
      refine wpAnyH_ready (rs := [16]) (by kernel_rfl) (by simp) ?_
      refine AllReadyH.cons rfl (fun K hK => ?_) AllReadyH.nil
      go_simp
      refine hK.out _ _ hS2 (fun _ => ?_)
      clear hK K
      refine wpAnyH_ready (rs := [28]) (by kernel_rfl) (by simp) ?_
      refine AllReadyH.cons rfl (fun K hK => ?_) AllReadyH.nil
      go_simp
      go_wp2_with fail
      refine (unhide HWT).mono ?_
      clear HWT
      rintro e w3 ⟨v', rfl, rv, f3⟩
      obtain ⟨h2, o02, Br2, nt2, ri2, pk2, rt2, hr2, ch2, t, hl, hP, hnu, ln2, cn2, l2⟩ := unhide HY
      obtain ⟨va, vc, ev⟩ : ∃ va vc, v' = .slice va (putP L x u).length vc := by
        rcases rowp_form rv with ⟨e, h0⟩ | ⟨gg, cap, e⟩
        · exact ⟨none, 0, by rw [e, h0]⟩
        · exact ⟨_, cap, e⟩
      subst ev
      have Br3 := Br2.kept f3 (fun x => x)
      obtain ⟨hs1, hs2, hs3, hs4, hs5, hs6⟩ := hS2
      obtain ⟨W4, hW4⟩ : ∃ W, (w3.setCell ⟨br, 0, none⟩ (.int .u64 0)).setCell ⟨br, 1, none⟩ (.slice none 0 0) = W := ⟨_, rfl⟩
      obtain ⟨W5, hW5⟩ : ∃ W, W4.setCell ⟨br, 0, none⟩ (.int .u64 (r' : Nat)) = W := ⟨_, rfl⟩
      obtain ⟨W6, hW6⟩ : ∃ W, W5.setCell ⟨br, 1, none⟩ (.slice va (putP L x u).length vc) = W := ⟨_, rfl⟩
      obtain ⟨W7, hW7⟩ : ∃ W, W6.alloc (.cells #[.int .u64 (r' : Nat), .slice va (putP L x u).length vc] 35) = W := ⟨_, rfl⟩
      have f34 : Fr (fun k => k = br) w3 W4 := hW4 ▸ ((Fr.refl (fun k => k = br) w3).setCell (.inl rfl) _).setCell (.inl rfl) _
      have f45 : Fr (fun k => k = br) W4 W5 := hW5 ▸ (Fr.refl (fun k => k = br) W4).setCell (.inl rfl) _
      have f56 : Fr (fun k => k = br) W5 W6 := hW6 ▸ (Fr.refl (fun k => k = br) W5).setCell (.inl rfl) _
      have f67 : Still W6 W7 := hW7 ▸ (Fr.refl _ W6).alloc _
      have o4 : W4.heap[br]? = some (.cells #[.int .u64 0, .slice none 0 0] 35 (0, 0)) := hW4 ▸ heap_setCell_same _ br 1 _ _ (.slice none 0 0) (heap_setCell_same w3 br 0 _ _ (.int .u64 0) Br3.o)
      have o5 : W5.heap[br]? = some (.cells #[.int .u64 (r' : Nat), .slice none 0 0] 35 (0, 0)) := hW5 ▸ heap_setCell_same _ br 0 _ _ (.int .u64 (r' : Nat)) o4
      have o6 : W6.heap[br]? = some (.cells #[.int .u64 (r' : Nat), .slice va (putP L x u).length vc] 35 (0, 0)) := hW6 ▸ heap_setCell_same _ br 1 _ _ (.slice va (putP L x u).length vc) o5
      have f24 : Fr (fun k => k = br) w2 W4 := (f3.mono (fun _ x => x.elim)).trans' f34 (fun k hk => .inl hk)
      have f25 := f24.trans' f45 (fun k hk => .inl hk)
      have f26 := f25.trans' f56 (fun k hk => .inl hk)
      have HSX := @hide _ (fun (w' : World) (f : Fr (fun k => k = br) w2 w') => show w'.cell? ⟨bs, 0, none⟩ = some (ptr sb) ∧ w'.cell? ⟨bh, 0, none⟩ = some (ptr hb) ∧ w'.cell? ⟨bl, 0, none⟩ = some (.slice (some ⟨xa, xo, none⟩) n cap) ∧ w'.cell? ⟨bi, 0, none⟩ = some (.int .i64 (i : Nat)) ∧ w'.cell? ⟨xa, xo + i * 3 + 1, none⟩ = some (.string x) ∧ w'.cell? ⟨xa, xo + i * 3 + 2, none⟩ = some (.int .u64 (u : Nat)) from ⟨f.cell' hs1 ne.1, f.cell' hs2 ne.2.1, f.cell' hs3 ne.2.2.1, f.cell' hs4 ne.2.2.2.1, f.cell' hs5 ne.2.2.2.2.1, f.cell' hs6 ne.2.2.2.2.1⟩)
      have h6 := h2.turn f26 (fun k hk => by rw [hk]; exact nt2 br (by simp)) ne.2.2.2.2.2.1 ne.2.2.2.2.2.2
      have SL := sl_rootV W6 W7 r' (.slice va (putP L x u).length vc) rfl hW7
      have SW := t_sweepR (h6.still f67) ch2.st (some ⟨W6.heap.size, 0, none⟩) 1 [(r', .slice va (putP L x u).length vc)] [Q2] SL rfl (fun j p Q' h1 h2 => by
        match j, h1, h2 with
        | 0, h1, h2 =>
          cases (Option.some.inj h1); cases (Option.some.inj h2)
          exact ⟨_, rt2, ri2, by omega⟩
        | j + 1, h1, _ => simp at h1) (by simp) (by have := t.cnt; omega)
      have rv6 := row_kept (row_kept (row_kept rv f34 (fun k hk e => by have := (rv.lt k hk).1; have := Br2.lt; have e : k = br := e; omega)) f45 (fun k hk e => by have := (rv.lt k hk).1; have := Br2.lt; have e : k = br := e; omega)) f56 (fun k hk e => by have := (rv.lt k hk).1; have := Br2.lt; have e : k = br := e; omega)
      have HSW := hide SW
      have HE := hide (show ∀ w5 g, To sz W7 sb b T2 A w5 g (P2.length + 10 * cnt nu (ask nu (says P2 A))) → HpS nu g → (∀ u, ask nu g u = if u ∈ [Q2].flatten then ask nu (says P2 A) u else 0) → (∀ i, fi nu ≤ i → g i = says P2 A i) → PutL nu sz w sb b T A br (putP L x u) w5 from fun w5 g tg sg ak ke => by
        obtain ⟨T5, P5, o5, e5, l5⟩ := tg
        subst e5
        have sw : Swp nu (says P2 A) (says P5 A) Q2 := ⟨sg, fun u => by rw [ak]; simp, ke⟩
        have rv7 := own_still rv6 f67
        have nv : ∀ k, (Value.slice va (putP L x u).length vc).ownBlock = some k → ¬ tfoot sb b T2 k := fun k hk ht => by have := (rv.lt k hk).1; have := h2.st.lt k ht; omega
        refine ⟨T5, P5, r', Q2, _, (((OnxX.of o02).var f26 (fun k hk => hk) (fun k hk => by rw [hk]; exact nt2 br (by simp))).quiet f67).trans o5, ⟨o5.fr.obj (f67.obj o6 (fun x => x)) (nt2 br (by simp))⟩, row_lo (row_kept rv7 o5.fr (fun k hk => nv k hk)) o02.fr.size, fun k hk => o5.other (rv7.lt k hk).2 (nv k hk), o5.other (Nat.lt_of_lt_of_le (Nat.lt_of_lt_of_le Br2.lt f26.size) f67.size) (nt2 br (by simp)), t.put rt2 sw ri2 pk2⟩)
      have c30 : w3.cell? ⟨br, 0, none⟩ = some (.int .u64 (r : Nat)) := cell_of_obj Br3.o 0
      have c31 : w3.cell? ⟨br, 1, none⟩ = some (.slice la L.length lc) := cell_of_obj Br3.o 1
      have z3 : ∀ o, w3.frozen? ⟨br, o, none⟩ = false := fun o => by simp [World.frozen?, Br3.o]
      have c40 : W4.cell? ⟨br, 0, none⟩ = some (.int .u64 0) := cell_of_obj o4 0
      have z4 : W4.frozen? ⟨br, 0, none⟩ = false := by simp [World.frozen?, o4]
      have c51 : W5.cell? ⟨br, 1, none⟩ = some (.slice none 0 0) := cell_of_obj o5 1
      have z5 : W5.frozen? ⟨br, 1, none⟩ = false := by simp [World.frozen?, o5]
      have c60 : W6.cell? ⟨br, 0, none⟩ = some (.int .u64 (r' : Nat)) := cell_of_obj o6 0
      have c61 : W6.cell? ⟨br, 1, none⟩ = some (.slice va (putP L x u).length vc) := cell_of_obj o6 1
      have hS3 := unhide HSX w3 (f3.mono (fun _ x => x.elim))
      have hS4 := unhide HSX W4 f24
      have hS5 := unhide HSX W5 f25
      have hS6 := unhide HSX W6 f26
      have HW4 := hide hW4; have HW5 := hide hW5; have HW6 := hide hW6; have HW7 := hide hW7
      refine hK.out _ _ hS3 (fun _ => ?_)
      clear hK K h2 o02 Br2 nt2 ri2 pk2 rt2 hr2 ch2 t hl hP hnu ln2 cn2 l2 Br3 hs1 hs2 hs3 hs4 hs5 hs6 f34 f45 f56 f67 o4 o5 o6 f24 f25 f26 HSX h6 SL SW rv6 rv f3 hW4 hW5 hW6 hW7 HY
      refine wpAnyH_ready (rs := [29]) (by kernel_rfl) (by simp) ?_
      refine AllReadyH.cons rfl (fun K hK => ?_) AllReadyH.nil
      go_simp
      rw [unhide HW4]
      refine hK.out _ _ hS4 (fun _ => ?_)
      clear hK K c30 c31 z3 hS3
      refine wpAnyH_ready (rs := [30]) (by kernel_rfl) (by simp) ?_
      refine AllReadyH.cons rfl (fun K hK => ?_) AllReadyH.nil
      go_simp
      refine hK.out _ _ hS4 (fun _ => ?_)
      clear hK K
      refine wpAnyH_ready (rs := [31]) (by kernel_rfl) (by simp) ?_
      refine AllReadyH.cons rfl (fun K hK => ?_) AllReadyH.nil
      go_simp
      rw [unhide HW5]
      refine hK.out _ _ hS5 (fun _ => ?_)
      clear hK K c40 z4 hS4
      refine wpAnyH_ready (rs := [32]) (by kernel_rfl) (by simp) ?_
      refine AllReadyH.cons rfl (fun K hK => ?_) AllReadyH.nil
      go_simp
      refine hK.out _ _ hS5 (fun _ => ?_)
      clear hK K
      refine wpAnyH_ready (rs := [33]) (by kernel_rfl) (by simp) ?_
      refine AllReadyH.cons rfl (fun K hK => ?_) AllReadyH.nil
      go_simp
      rw [unhide HW6]
      refine hK.out _ _ hS6 (fun _ => ?_)
      clear hK K c51 z5 hS5
      refine wpAnyH_done (by kernel_rfl) ?_ _
      obtain ⟨x1, x2, -⟩ := hS6
      go_wp2_with fail
      rw [unhide HW7]
      refine (unhide HSW).mono ?_
      rintro e w5 ⟨rfl, g, tg, sg, ak, ke, -⟩
      have HQ := hide (unhide HE w5 g tg sg ak ke)
      clear HSW HE tg sg ak ke
      go_wp2_with fail
      go_end0
      exact ⟨rfl, unhide HQ⟩
    · go_simp
      refine hK.out _ _ hHeld (fun _ => ?_)
      clear hK K
      refine wpAnyH_ready (rs := [14]) (by kernel_rfl) (by simp) ?_
      refine AllReadyH.cons rfl (fun K hK => ?_) AllReadyH.nil
      go_simp
      go_wp2_with fail
      refine (unhide HP).mono ?_
      clear HP
      rintro e w2 ⟨r', rfl, T2, P2, Q2, k2, hk2, o2, l2, ch2, hr2, rt2⟩
      obtain ⟨h, t, hl, hP, hnu, Br, fD, hL, hx, hu⟩ := unhide HX
      have h2 := (h.still fD).call o2
      have o02 : Onx w sb b T w2 T2 sz A P2 false := o2.after fD
      have hS2 : w2.cell? ⟨bs, 0, none⟩ = some (ptr sb) ∧ w2.cell? ⟨bh, 0, none⟩ = some (ptr hb) ∧ w2.cell? ⟨bl, 0, none⟩ = some (.slice (some ⟨xa, xo, none⟩) n cap) ∧ w2.cell? ⟨bi, 0, none⟩ = some (.int .i64 (i : Nat)) ∧ w2.cell? ⟨xa, xo + i * 3 + 1, none⟩ = some (.string x) ∧ w2.cell? ⟨xa, xo + i * 3 + 2, none⟩ = some (.int .u64 (u : Nat)) := ⟨o02.fr.cell' cs (unhide HNT bs (by simp)), o02.fr.cell' ch (unhide HNT bh (by simp)), o02.fr.cell' cl (unhide HNT bl (by simp)), o02.fr.cell' ci (unhide HNT bi (by simp)), o02.fr.cell' ck (unhide HNT xa (by simp)), o02.fr.cell' cv (unhide HNT xa (by simp))⟩
      have Br2 := Br.kept o02.fr (unhide HNT br (by simp))
      have cr2' : w2.cell? ⟨br, 1, none⟩ = some (.slice la L.length lc) := cell_of_obj Br2.o 1
      have hL2 : Lf w2 la lc L := hL.kept o02.fr (fun y hy => unhide HNT y.block (.inr (.inr (.inr (.inr (.inr (.inr ⟨y, hy, rfl⟩)))))))
      have WT := with_put la lc L x u w2 hL2 (by omega) t.ri
      have nt2 : ∀ k, k = bs ∨ k = bh ∨ k = br ∨ k = bl ∨ k = bi ∨ k = xa → ¬ tfoot sb b T2 k := fun k hk => o02.other (by rcases hk with rfl | rfl | rfl | rfl | rfl | rfl <;> assumption) (by rcases hk with e | e | e | e | e | e <;> exact unhide HNT k (by simp [e]))
      have ri2 : Rise (putP L x u) := putP_rise t.ri
      have pk2 : Pok (putP L x u) := t.pk.put hx hu
      have ln2 := putP_len x u L
      have few2 := ch2.few
      have cn := t.cnt
      have HWT := hide WT
      have HY := hide (And.intro h2 (And.intro o02 (And.intro Br2 (And.intro nt2 (And.intro ri2 (And.intro pk2 (And.intro rt2 (And.intro hr2 (And.intro ch2 (And.intro t (show L.length ≤ 130 ∧ P.length ≤ 100 ∧ 2 * L.length + 30 < nu / 4 ∧ (putP L x u).length ≤ L.length + 1 ∧ cnt nu (ask nu (says P2 A)) ≤ cnt nu (ask nu (says P A)) + 20 ∧ P2.length ≤ P.length + 1600 from ⟨hl, hP, hnu, ln2, by omega, l2⟩)))))))))))
      refine hK.out _ _ hS2 (fun _ => ?_)
      clear hK K WT h2 o02 o2 Br Br2 nt2 ri2 pk2 rt2 hr2 ch2 t hl hP hnu ln2 few2 cn l2 h hL hL2 hx hu fD hk2 HX
      refine wpAnyH_ready (rs := [28]) (by kernel_rfl) (by simp) ?_
      refine AllReadyH.cons rfl (fun K hK => ?_) AllReadyH.nil
      go_simp
      go_wp2_with fail
      refine (unhide HWT).mono ?_
      clear HWT
      rintro e w3 ⟨v', rfl, rv, f3⟩
      obtain ⟨h2, o02, Br2, nt2, ri2, pk2, rt2, hr2, ch2, t, hl, hP, hnu, ln2, cn2, l2⟩ := unhide HY
      obtain ⟨va, vc, ev⟩ : ∃ va vc, v' = .slice va (putP L x u).length vc := by
        rcases rowp_form rv with ⟨e, h0⟩ | ⟨gg, cap, e⟩
        · exact ⟨none, 0, by rw [e, h0]⟩
        · exact ⟨_, cap, e⟩
      subst ev
      have Br3 := Br2.kept f3 (fun x => x)
      obtain ⟨hs1, hs2, hs3, hs4, hs5, hs6⟩ := hS2
      obtain ⟨W4, hW4⟩ : ∃ W, (w3.setCell ⟨br, 0, none⟩ (.int .u64 0)).setCell ⟨br, 1, none⟩ (.slice none 0 0) = W := ⟨_, rfl⟩
      obtain ⟨W5, hW5⟩ : ∃ W, W4.setCell ⟨br, 0, none⟩ (.int .u64 (r' : Nat)) = W := ⟨_, rfl⟩
      obtain ⟨W6, hW6⟩ : ∃ W, W5.setCell ⟨br, 1, none⟩ (.slice va (putP L x u).length vc) = W := ⟨_, rfl⟩
      obtain ⟨W7, hW7⟩ : ∃ W, W6.alloc (.cells #[.int .u64 (r' : Nat), .slice va (putP L x u).length vc] 35) = W := ⟨_, rfl⟩
      have f34 : Fr (fun k => k = br) w3 W4 := hW4 ▸ ((Fr.refl (fun k => k = br) w3).setCell (.inl rfl) _).setCell (.inl rfl) _
      have f45 : Fr (fun k => k = br) W4 W5 := hW5 ▸ (Fr.refl (fun k => k = br) W4).setCell (.inl rfl) _
      have f56 : Fr (fun k => k = br) W5 W6 := hW6 ▸ (Fr.refl (fun k => k = br) W5).setCell (.inl rfl) _
      have f67 : Still W6 W7 := hW7 ▸ (Fr.refl _ W6).alloc _
      have o4 : W4.heap[br]? = some (.cells #[.int .u64 0, .slice none 0 0] 35 (0, 0)) := hW4 ▸ heap_setCell_same _ br 1 _ _ (.slice none 0 0) (heap_setCell_same w3 br 0 _ _ (.int .u64 0) Br3.o)
      have o5 : W5.heap[br]? = some (.cells #[.int .u64 (r' : Nat), .slice none 0 0] 35 (0, 0)) := hW5 ▸ heap_setCell_same _ br 0 _ _ (.int .u64 (r' : Nat)) o4
      have o6 : W6.heap[br]? = some (.cells #[.int .u64 (r' : Nat), .slice va (putP L x u).length vc] 35 (0, 0)) := hW6 ▸ heap_setCell_same _ br 1 _ _ (.slice va (putP L x u).length vc) o5
      have f24 : Fr (fun k => k = br) w2 W4 := (f3.mono (fun _ x => x.elim)).trans' f34 (fun k hk => .inl hk)
      have f25 := f24.trans' f45 (fun k hk => .inl hk)
      have f26 := f25.trans' f56 (fun k hk => .inl hk)
      have HSX := @hide _ (fun (w' : World) (f : Fr (fun k => k = br) w2 w') => show w'.cell? ⟨bs, 0, none⟩ = some (ptr sb) ∧ w'.cell? ⟨bh, 0, none⟩ = some (ptr hb) ∧ w'.cell? ⟨bl, 0, none⟩ = some (.slice (some ⟨xa, xo, none⟩) n cap) ∧ w'.cell? ⟨bi, 0, none⟩ = some (.int .i64 (i : Nat)) ∧ w'.cell? ⟨xa, xo + i * 3 + 1, none⟩ = some (.string x) ∧ w'.cell? ⟨xa, xo + i * 3 + 2, none⟩ = some (.int .u64 (u : Nat)) from ⟨f.cell' hs1 ne.1, f.cell' hs2 ne.2.1, f.cell' hs3 ne.2.2.1, f.cell' hs4 ne.2.2.2.1, f.cell' hs5 ne.2.2.2.2.1, f.cell' hs6 ne.2.2.2.2.1⟩)
      have h6 := h2.turn f26 (fun k hk => by rw [hk]; exact nt2 br (by simp)) ne.2.2.2.2.2.1 ne.2.2.2.2.2.2
      have SL := sl_rootV W6 W7 r' (.slice va (putP L x u).length vc) rfl hW7
      have SW := t_sweepR (h6.still f67) ch2.st (some ⟨W6.heap.size, 0, none⟩) 1 [(r', .slice va (putP L x u).length vc)] [Q2] SL rfl (fun j p Q' h1 h2 => by
        match j, h1, h2 with
        | 0, h1, h2 =>
          cases (Option.some.inj h1); cases (Option.some.inj h2)
          exact ⟨_, rt2, ri2, by omega⟩
        | j + 1, h1, _ => simp at h1) (by simp) (by have := t.cnt; omega)
      have rv6 := row_kept (row_kept (row_kept rv f34 (fun k hk e => by have := (rv.lt k hk).1; have := Br2.lt; have e : k = br := e; omega)) f45 (fun k hk e => by have := (rv.lt k hk).1; have := Br2.lt; have e : k = br := e; omega)) f56 (fun k hk e => by have := (rv.lt k hk).1; have := Br2.lt; have e : k = br := e; omega)
      have HSW := hide SW
      have HE := hide (show ∀ w5 g, To sz W7 sb b T2 A w5 g (P2.length + 10 * cnt nu (ask nu (says P2 A))) → HpS nu g → (∀ u, ask nu g u = if u ∈ [Q2].flatten then ask nu (says P2 A) u else 0) → (∀ i, fi nu ≤ i → g i = says P2 A i) → PutL nu sz w sb b T A br (putP L x u) w5 from fun w5 g tg sg ak ke => by
        obtain ⟨T5, P5, o5, e5, l5⟩ := tg
        subst e5
        have sw : Swp nu (says P2 A) (says P5 A) Q2 := ⟨sg, fun u => by rw [ak]; simp, ke⟩
        have rv7 := own_still rv6 f67
        have nv : ∀ k, (Value.slice va (putP L x u).length vc).ownBlock = some k → ¬ tfoot sb b T2 k := fun k hk ht => by have := (rv.lt k hk).1; have := h2.st.lt k ht; omega
        refine ⟨T5, P5, r', Q2, _, (((OnxX.of o02).var f26 (fun k hk => hk) (fun k hk => by rw [hk]; exact nt2 br (by simp))).quiet f67).trans o5, ⟨o5.fr.obj (f67.obj o6 (fun x => x)) (nt2 br (by simp))⟩, row_lo (row_kept rv7 o5.fr (fun k hk => nv k hk)) o02.fr.size, fun k hk => o5.other (rv7.lt k hk).2 (nv k hk), o5.other (Nat.lt_of_lt_of_le (Nat.lt_of_lt_of_le Br2.lt f26.size) f67.size) (nt2 br (by simp)), t.put rt2 sw ri2 pk2⟩)
      have c30 : w3.cell? ⟨br, 0, none⟩ = some (.int .u64 (r : Nat)) := cell_of_obj Br3.o 0
      have c31 : w3.cell? ⟨br, 1, none⟩ = some (.slice la L.length lc) := cell_of_obj Br3.o 1
      have z3 : ∀ o, w3.frozen? ⟨br, o, none⟩ = false := fun o => by simp [World.frozen?, Br3.o]
      have c40 : W4.cell? ⟨br, 0, none⟩ = some (.int .u64 0) := cell_of_obj o4 0
      have z4 : W4.frozen? ⟨br, 0, none⟩ = false := by simp [World.frozen?, o4]
      have c51 : W5.cell? ⟨br, 1, none⟩ = some (.slice none 0 0) := cell_of_obj o5 1
      have z5 : W5.frozen? ⟨br, 1, none⟩ = false := by simp [World.frozen?, o5]
      have c60 : W6.cell? ⟨br, 0, none⟩ = some (.int .u64 (r' : Nat)) := cell_of_obj o6 0
      have c61 : W6.cell? ⟨br, 1, none⟩ = some (.slice va (putP L x u).length vc) := cell_of_obj o6 1
      have hS3 := unhide HSX w3 (f3.mono (fun _ x => x.elim))
      have hS4 := unhide HSX W4 f24
      have hS5 := unhide HSX W5 f25
      have hS6 := unhide HSX W6 f26
      have HW4 := hide hW4; have HW5 := hide hW5; have HW6 := hide hW6; have HW7 := hide hW7
      refine hK.out _ _ hS3 (fun _ => ?_)
      clear hK K h2 o02 Br2 nt2 ri2 pk2 rt2 hr2 ch2 t hl hP hnu ln2 cn2 l2 Br3 hs1 hs2 hs3 hs4 hs5 hs6 f34 f45 f56 f67 o4 o5 o6 f24 f25 f26 HSX h6 SL SW rv6 rv f3 hW4 hW5 hW6 hW7 HY
      refine wpAnyH_ready (rs := [29]) (by kernel_rfl) (by simp) ?_
      refine AllReadyH.cons rfl (fun K hK => ?_) AllReadyH.nil
      go_simp
      rw [unhide HW4]
      refine hK.out _ _ hS4 (fun _ => ?_)
      clear hK K c30 c31 z3 hS3
      refine wpAnyH_ready (rs := [30]) (by kernel_rfl) (by simp) ?_
      refine AllReadyH.cons rfl (fun K hK => ?_) AllReadyH.nil
      go_simp
      refine hK.out _ _ hS4 (fun _ => ?_)
      clear hK K
      refine wpAnyH_ready (rs := [31]) (by kernel_rfl) (by simp) ?_
      refine AllReadyH.cons rfl (fun K hK => ?_) AllReadyH.nil
      go_simp
      rw [unhide HW5]
      refine hK.out _ _ hS5 (fun _ => ?_)
      clear hK K c40 z4 hS4
      refine wpAnyH_ready (rs := [32]) (by kernel_rfl) (by simp) ?_
      refine AllReadyH.cons rfl (fun K hK => ?_) AllReadyH.nil
      go_simp
      refine hK.out _ _ hS5 (fun _ => ?_)
      clear hK K
      refine wpAnyH_ready (rs := [33]) (by kernel_rfl) (by simp) ?_
      refine AllReadyH.cons rfl (fun K hK => ?_) AllReadyH.nil
      go_simp
      rw [unhide HW6]
      refine hK.out _ _ hS6 (fun _ => ?_)
      clear hK K c51 z5 hS5
      refine wpAnyH_done (by kernel_rfl) ?_ _
      obtain ⟨x1, x2, -⟩ := hS6
      go_wp2_with fail
      rw [unhide HW7]
      refine (unhide HSW).mono ?_
      rintro e w5 ⟨rfl, g, tg, sg, ak, ke, -⟩
      have HQ := hide (unhide HE w5 g tg sg ak ke)
      clear HSW HE tg sg ak ke
      go_wp2_with fail
      go_end0
      exact ⟨rfl, unhide HQ⟩
  · go_simp
    refine hK.out _ _ hHeld (fun _ => ?_)
    clear hK K
    refine wpAnyH_ready (rs := [3]) (by kernel_rfl) (by simp) ?_
    refine AllReadyH.cons rfl (fun K hK => ?_) AllReadyH.nil
    go_simp
    refine hK.out _ _ hHeld (fun _ => ?_)
    clear hK K
    refine wpAnyH_ready (rs := [14]) (by kernel_rfl) (by simp) ?_
    refine AllReadyH.cons rfl (fun K hK => ?_) AllReadyH.nil
    go_simp
    go_wp2_with fail
    refine (unhide HP).mono ?_
    clear HP
    rintro e w2 ⟨r', rfl, T2, P2, Q2, k2, hk2, o2, l2, ch2, hr2, rt2⟩
    obtain ⟨h, t, hl, hP, hnu, Br, fD, hL, hx, hu⟩ := unhide HX
    have h2 := (h.still fD).call o2
    have o02 : Onx w sb b T w2 T2 sz A P2 false := o2.after fD
    have hS2 : w2.cell? ⟨bs, 0, none⟩ = some (ptr sb) ∧ w2.cell? ⟨bh, 0, none⟩ = some (ptr hb) ∧ w2.cell? ⟨bl, 0, none⟩ = some (.slice (some ⟨xa, xo, none⟩) n cap) ∧ w2.cell? ⟨bi, 0, none⟩ = some (.int .i64 (i : Nat)) ∧ w2.cell? ⟨xa, xo + i * 3 + 1, none⟩ = some (.string x) ∧ w2.cell? ⟨xa, xo + i * 3 + 2, none⟩ = some (.int .u64 (u : Nat)) := ⟨o02.fr.cell' cs (unhide HNT bs (by simp)), o02.fr.cell' ch (unhide HNT bh (by simp)), o02.fr.cell' cl (unhide HNT bl (by simp)), o02.fr.cell' ci (unhide HNT bi (by simp)), o02.fr.cell' ck (unhide HNT xa (by simp)), o02.fr.cell' cv (unhide HNT xa (by simp))⟩
    have Br2 := Br.kept o02.fr (unhide HNT br (by simp))
    have cr2' : w2.cell? ⟨br, 1, none⟩ = some (.slice la L.length lc) := cell_of_obj Br2.o 1
    have hL2 : Lf w2 la lc L := hL.kept o02.fr (fun y hy => unhide HNT y.block (.inr (.inr (.inr (.inr (.inr (.inr ⟨y, hy, rfl⟩)))))))
    have WT := with_put la lc L x u w2 hL2 (by omega) t.ri
    have nt2 : ∀ k, k = bs ∨ k = bh ∨ k = br ∨ k = bl ∨ k = bi ∨ k = xa → ¬ tfoot sb b T2 k := fun k hk => o02.other (by rcases hk with rfl | rfl | rfl | rfl | rfl | rfl <;> assumption) (by rcases hk with e | e | e | e | e | e <;> exact unhide HNT k (by simp [e]))
    have ri2 : Rise (putP L x u) := putP_rise t.ri
    have pk2 : Pok (putP L x u) := t.pk.put hx hu
    have ln2 := putP_len x u L
    have few2 := ch2.few
    have cn := t.cnt
    have HWT := hide WT
    have HY := hide (And.intro h2 (And.intro o02 (And.intro Br2 (And.intro nt2 (And.intro ri2 (And.intro pk2 (And.intro rt2 (And.intro hr2 (And.intro ch2 (And.intro t (show L.length ≤ 130 ∧ P.length ≤ 100 ∧ 2 * L.length + 30 < nu / 4 ∧ (putP L x u).length ≤ L.length + 1 ∧ cnt nu (ask nu (says P2 A)) ≤ cnt nu (ask nu (says P A)) + 20 ∧ P2.length ≤ P.length + 1600 from ⟨hl, hP, hnu, ln2, by omega, l2⟩)))))))))))
    refine hK.out _ _ hS2 (fun _ => ?_)
    clear hK K WT h2 o02 o2 Br Br2 nt2 ri2 pk2 rt2 hr2 ch2 t hl hP hnu ln2 few2 cn l2 h hL hL2 hx hu fD hk2 HX
    refine wpAnyH_ready (rs := [28]) (by kernel_rfl) (by simp) ?_
    refine AllReadyH.cons rfl (fun K hK => ?_) AllReadyH.nil
    go_simp
    go_wp2_with fail
    refine (unhide HWT).mono ?_
    clear HWT
    rintro e w3 ⟨v', rfl, rv, f3⟩
    obtain ⟨h2, o02, Br2, nt2, ri2, pk2, rt2, hr2, ch2, t, hl, hP, hnu, ln2, cn2, l2⟩ := unhide HY
    obtain ⟨va, vc, ev⟩ : ∃ va vc, v' = .slice va (putP L x u).length vc := by
      rcases rowp_form rv with ⟨e, h0⟩ | ⟨gg, cap, e⟩
      · exact ⟨none, 0, by rw [e, h0]⟩
      · exact ⟨_, cap, e⟩
    subst ev
    have Br3 := Br2.kept f3 (fun x => x)
    obtain ⟨hs1, hs2, hs3, hs4, hs5, hs6⟩ := hS2
    obtain ⟨W4, hW4⟩ : ∃ W, (w3.setCell ⟨br, 0, none⟩ (.int .u64 0)).setCell ⟨br, 1, none⟩ (.slice none 0 0) = W := ⟨_, rfl⟩
    obtain ⟨W5, hW5⟩ : ∃ W, W4.setCell ⟨br, 0, none⟩ (.int .u64 (r' : Nat)) = W := ⟨_, rfl⟩
    obtain ⟨W6, hW6⟩ : ∃ W, W5.setCell ⟨br, 1, none⟩ (.slice va (putP L x u).length vc) = W := ⟨_, rfl⟩
    obtain ⟨W7, hW7⟩ : ∃ W, W6.alloc (.cells #[.int .u64 (r' : Nat), .slice va (putP L x u).length vc] 35) = W := ⟨_, rfl⟩
    have f34 : Fr (fun k => k = br) w3 W4 := hW4 ▸ ((Fr.refl (fun k => k = br) w3).setCell (.inl rfl) _).setCell (.inl rfl) _
    have f45 : Fr (fun k => k = br) W4 W5 := hW5 ▸ (Fr.refl (fun k => k = br) W4).setCell (.inl rfl) _
    have f56 : Fr (fun k => k = br) W5 W6 := hW6 ▸ (Fr.refl (fun k => k = br) W5).setCell (.inl rfl) _
    have f67 : Still W6 W7 := hW7 ▸ (Fr.refl _ W6).alloc _
    have o4 : W4.heap[br]? = some (.cells #[.int .u64 0, .slice none 0 0] 35 (0, 0)) := hW4 ▸ heap_setCell_same _ br 1 _ _ (.slice none 0 0) (heap_setCell_same w3 br 0 _ _ (.int .u64 0) Br3.o)
    have o5 : W5.heap[br]? = some (.cells #[.int .u64 (r' : Nat), .slice none 0 0] 35 (0, 0)) := hW5 ▸ heap_setCell_same _ br 0 _ _ (.int .u64 (r' : Nat)) o4
    have o6 : W6.heap[br]? = some (.cells #[.int .u64 (r' : Nat), .slice va (putP L x u).length vc] 35 (0, 0)) := hW6 ▸ heap_setCell_same _ br 1 _ _ (.slice va (putP L x u).length vc) o5
    have f24 : Fr (fun k => k = br) w2 W4 := (f3.mono (fun _ x => x.elim)).trans' f34 (fun k hk => .inl hk)
    have f25 := f24.trans' f45 (fun k hk => .inl hk)
    have f26 := f25.trans' f56 (fun k hk => .inl hk)
    have HSX := @hide _ (fun (w' : World) (f : Fr (fun k => k = br) w2 w') => show w'.cell? ⟨bs, 0, none⟩ = some (ptr sb) ∧ w'.cell? ⟨bh, 0, none⟩ = some (ptr hb) ∧ w'.cell? ⟨bl, 0, none⟩ = some (.slice (some ⟨xa, xo, none⟩) n cap) ∧ w'.cell? ⟨bi, 0, none⟩ = some (.int .i64 (i : Nat)) ∧ w'.cell? ⟨xa, xo + i * 3 + 1, none⟩ = some (.string x) ∧ w'.cell? ⟨xa, xo + i * 3 + 2, none⟩ = some (.int .u64 (u : Nat)) from ⟨f.cell' hs1 ne.1, f.cell' hs2 ne.2.1, f.cell' hs3 ne.2.2.1, f.cell' hs4 ne.2.2.2.1, f.cell' hs5 ne.2.2.2.2.1, f.cell' hs6 ne.2.2.2.2.1⟩)
    have h6 := h2.turn f26 (fun k hk => by rw [hk]; exact nt2 br (by simp)) ne.2.2.2.2.2.1 ne.2.2.2.2.2.2
    have SL := sl_rootV W6 W7 r' (.slice va (putP L x u).length vc) rfl hW7
    have SW := t_sweepR (h6.still f67) ch2.st (some ⟨W6.heap.size, 0, none⟩) 1 [(r', .slice va (putP L x u).length vc)] [Q2] SL rfl (fun j p Q' h1 h2 => by
      match j, h1, h2 with
      | 0, h1, h2 =>
        cases (Option.some.inj h1); cases (Option.some.inj h2)
        exact ⟨_, rt2, ri2, by omega⟩
      | j + 1, h1, _ => simp at h1) (by simp) (by have := t.cnt; omega)
    have rv6 := row_kept (row_kept (row_kept rv f34 (fun k hk e => by have := (rv.lt k hk).1; have := Br2.lt; have e : k = br := e; omega)) f45 (fun k hk e => by have := (rv.lt k hk).1; have := Br2.lt; have e : k = br := e; omega)) f56 (fun k hk e => by have := (rv.lt k hk).1; have := Br2.lt; have e : k = br := e; omega)
    have HSW := hide SW
    have HE := hide (show ∀ w5 g, To sz W7 sb b T2 A w5 g (P2.length + 10 * cnt nu (ask nu (says P2 A))) → HpS nu g → (∀ u, ask nu g u = if u ∈ [Q2].flatten then ask nu (says P2 A) u else 0) → (∀ i, fi nu ≤ i → g i = says P2 A i) → PutL nu sz w sb b T A br (putP L x u) w5 from fun w5 g tg sg ak ke => by
      obtain ⟨T5, P5, o5, e5, l5⟩ := tg
      subst e5
      have sw : Swp nu (says P2 A) (says P5 A) Q2 := ⟨sg, fun u => by rw [ak]; simp, ke⟩
      have rv7 := own_still rv6 f67
      have nv : ∀ k, (Value.slice va (putP L x u).length vc).ownBlock = some k → ¬ tfoot sb b T2 k := fun k hk ht => by have := (rv.lt k hk).1; have := h2.st.lt k ht; omega
      refine ⟨T5, P5, r', Q2, _, (((OnxX.of o02).var f26 (fun k hk => hk) (fun k hk => by rw [hk]; exact nt2 br (by simp))).quiet f67).trans o5, ⟨o5.fr.obj (f67.obj o6 (fun x => x)) (nt2 br (by simp))⟩, row_lo (row_kept rv7 o5.fr (fun k hk => nv k hk)) o02.fr.size, fun k hk => o5.other (rv7.lt k hk).2 (nv k hk), o5.other (Nat.lt_of_lt_of_le (Nat.lt_of_lt_of_le Br2.lt f26.size) f67.size) (nt2 br (by simp)), t.put rt2 sw ri2 pk2⟩)
    have c30 : w3.cell? ⟨br, 0, none⟩ = some (.int .u64 (r : Nat)) := cell_of_obj Br3.o 0
    have c31 : w3.cell? ⟨br, 1, none⟩ = some (.slice la L.length lc) := cell_of_obj Br3.o 1
    have z3 : ∀ o, w3.frozen? ⟨br, o, none⟩ = false := fun o => by simp [World.frozen?, Br3.o]
    have c40 : W4.cell? ⟨br, 0, none⟩ = some (.int .u64 0) := cell_of_obj o4 0
    have z4 : W4.frozen? ⟨br, 0, none⟩ = false := by simp [World.frozen?, o4]
    have c51 : W5.cell? ⟨br, 1, none⟩ = some (.slice none 0 0) := cell_of_obj o5 1
    have z5 : W5.frozen? ⟨br, 1, none⟩ = false := by simp [World.frozen?, o5]
    have c60 : W6.cell? ⟨br, 0, none⟩ = some (.int .u64 (r' : Nat)) := cell_of_obj o6 0
    have c61 : W6.cell? ⟨br, 1, none⟩ = some (.slice va (putP L x u).length vc) := cell_of_obj o6 1
    have hS3 := unhide HSX w3 (f3.mono (fun _ x => x.elim))
    have hS4 := unhide HSX W4 f24
    have hS5 := unhide HSX W5 f25
    have hS6 := unhide HSX W6 f26
    have HW4 := hide hW4; have HW5 := hide hW5; have HW6 := hide hW6; have HW7 := hide hW7
    refine hK.out _ _ hS3 (fun _ => ?_)
    clear hK K h2 o02 Br2 nt2 ri2 pk2 rt2 hr2 ch2 t hl hP hnu ln2 cn2 l2 Br3 hs1 hs2 hs3 hs4 hs5 hs6 f34 f45 f56 f67 o4 o5 o6 f24 f25 f26 HSX h6 SL SW rv6 rv f3 hW4 hW5 hW6 hW7 HY
    refine wpAnyH_ready (rs := [29]) (by kernel_rfl) (by simp) ?_
    refine AllReadyH.cons rfl (fun K hK => ?_) AllReadyH.nil
    go_simp
    rw [unhide HW4]
    refine hK.out _ _ hS4 (fun _ => ?_)
    clear hK K c30 c31 z3 hS3
    refine wpAnyH_ready (rs := [30]) (by kernel_rfl) (by simp) ?_
    refine AllReadyH.cons rfl (fun K hK => ?_) AllReadyH.nil
    go_simp
    refine hK.out _ _ hS4 (fun _ => ?_)
    clear hK K
    refine wpAnyH_ready (rs := [31]) (by kernel_rfl) (by simp) ?_
    refine AllReadyH.cons rfl (fun K hK => ?_) AllReadyH.nil
    go_simp
    rw [unhide HW5]
    refine hK.out _ _ hS5 (fun _ => ?_)
    clear hK K c40 z4 hS4
    refine wpAnyH_ready (rs := [32]) (by kernel_rfl) (by simp) ?_
    refine AllReadyH.cons rfl (fun K hK => ?_) AllReadyH.nil
    go_simp
    refine hK.out _ _ hS5 (fun _ => ?_)
    clear hK K
    refine wpAnyH_ready (rs := [33]) (by kernel_rfl) (by simp) ?_
    refine AllReadyH.cons rfl (fun K hK => ?_) AllReadyH.nil
    go_simp
    rw [unhide HW6]
    refine hK.out _ _ hS6 (fun _ => ?_)
    clear hK K c51 z5 hS5
    refine wpAnyH_done (by kernel_rfl) ?_ _
    obtain ⟨x1, x2, -⟩ := hS6
    go_wp2_with fail
    rw [unhide HW7]
    refine (unhide HSW).mono ?_
    rintro e w5 ⟨rfl, g, tg, sg, ak, ke, -⟩
    have HQ := hide (unhide HE w5 g tg sg ak ke)
    clear HSW HE tg sg ak ke
    go_wp2_with fail
    go_end0
    exact ⟨rfl, unhide HQ⟩
end
end
end Go.Proofs.YtkaplgmjdfmpmaaGreatDoor
