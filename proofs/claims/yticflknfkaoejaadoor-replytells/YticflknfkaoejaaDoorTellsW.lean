/- ReplyTells: each answer is told as the document says. -/
import Derived.Test.YticflknfkaoejaaDoorTo
namespace Go.Proofs.YticflknfkaoejaaDoor
open Go.RowKit

set_option maxRecDepth 100000 in
set_option maxHeartbeats 20000000 in
theorem tells_law (e : Int) (b : Option Addr) (blen bcap : Nat) (bb : List UInt8) (l : Option Addr) (llen lcap : Nat) (Q : Nat → PairQ) (nm : Option Addr) (nmlen nmcap : Nat) (S : Nat → List UInt8) (bt : Option Addr) (btlen btcap : Nat) (f : Nat → Nat) (n : Option Addr) (nlen ncap : Nat) (zs : Nat → Int) (yes : Bool) {W : World}
    (hb : Sl W b blen bcap bb) (hQ : PairsAt W l llen Q) (hS : StrsAt W nm nmlen S) (hnc : nmlen ≤ nmcap) (hncm : nmcap ≤ maxLen) (hf : ∀ k, f k < 18446744073709551616) (hbt : ∀ k, k < btlen → ∃ xb xo, bt = some ⟨xb, xo, none⟩ ∧ W.cell? ⟨xb, xo + k, none⟩ = some (.int .u64 (f k : Nat)))
    (hn : Nums W n nlen zs) (hz : ∀ k, k < nlen → -9223372036854775808 ≤ zs k ∧ zs k ≤ 9223372036854775807) (hK : Kn W W) :
    Calls Tryd.prog 3 #[iv e, .slice b blen bcap, .slice l llen lcap, .slice nm nmlen nmcap, .slice bt btlen btcap, .slice n nlen ncap, .bool yes] W fun e W' => e = .returned (.bool true) ∧ Below W.heap.size W W' := by
  have HA := hide (fun w2 (f : Still W w2) => awake_ok (hK.still f))
  have HK := hide hK
  have HB := hide hb
  have HQ := hide hQ
  have HS := hide (And.intro hS (And.intro hnc hncm))
  have HU := hide (And.intro hf hbt)
  have HN := hide (And.intro hn hz)
  clear hK hb hQ hS hnc hncm hf hbt hn hz
  by_cases g1 : 2000 < blen
  · have g1' : ((2000 : Int) < blen) = True := by simp; omega
    clear g1
    go_enter Tryd.func3, Tryd.ntmps3
    go_wp2_with fail
    refine (unhide HA _ (Fr.refl _ W)).mono ?_
    rintro e wa ⟨rfl, sa⟩
    have SA := hide ((Fr.refl _ W).trans sa)
    clear sa HA
    go_wp2
    go_ret
    exact ⟨rfl, (unhide SA).below (Nat.le_refl _) fun _ x => x.elim⟩
  have g1' : ((2000 : Int) < blen) = False := by simp; omega
  have G1 := hide (show blen ≤ 2000 by omega)
  clear g1
  by_cases g2 : 40 < llen
  · have g2' : ((40 : Int) < llen) = True := by simp; omega
    clear g2
    go_enter Tryd.func3, Tryd.ntmps3
    go_wp2_with fail
    refine (unhide HA _ (Fr.refl _ W)).mono ?_
    rintro e wa ⟨rfl, sa⟩
    have SA := hide ((Fr.refl _ W).trans sa)
    clear sa HA
    go_wp2
    go_ret
    exact ⟨rfl, (unhide SA).below (Nat.le_refl _) fun _ x => x.elim⟩
  have g2' : ((40 : Int) < llen) = False := by simp; omega
  have G2 := hide (show llen ≤ 40 by omega)
  clear g2
  by_cases g3 : 100 < nlen
  · have g3' : ((100 : Int) < nlen) = True := by simp; omega
    clear g3
    go_enter Tryd.func3, Tryd.ntmps3
    go_wp2_with fail
    refine (unhide HA _ (Fr.refl _ W)).mono ?_
    rintro e wa ⟨rfl, sa⟩
    have SA := hide ((Fr.refl _ W).trans sa)
    clear sa HA
    go_wp2
    go_ret
    exact ⟨rfl, (unhide SA).below (Nat.le_refl _) fun _ x => x.elim⟩
  have g3' : ((100 : Int) < nlen) = False := by simp; omega
  have G3 := hide (show nlen ≤ 100 by omega)
  clear g3
  by_cases g4 : 40 < nmlen
  · have g4' : ((40 : Int) < nmlen) = True := by simp; omega
    clear g4
    go_enter Tryd.func3, Tryd.ntmps3
    go_wp2_with fail
    refine (unhide HA _ (Fr.refl _ W)).mono ?_
    rintro e wa ⟨rfl, sa⟩
    have SA := hide ((Fr.refl _ W).trans sa)
    clear sa HA
    go_wp2
    go_ret
    exact ⟨rfl, (unhide SA).below (Nat.le_refl _) fun _ x => x.elim⟩
  have g4' : ((40 : Int) < nmlen) = False := by simp; omega
  have G4 := hide (show nmlen ≤ 40 by omega)
  clear g4
  go_enter Tryd.func3, Tryd.ntmps3
  go_wp2_with fail
  clear g1' g2' g3' g4'
  go_loopw [15, 16] (fun p i wr => ∃ (k : Nat) (pp : Option Addr) (pc : Nat), i = iv k ∧ p = .slice pp k pc ∧ Hid (k ≤ llen ∧ Row2 wr W.heap.size 32 (.slice pp k pc) (fun i => sv (Q i).key) (fun i => sv (Q i).val) k ∧ Still W wr ∧ ∀ i, i < k → (Q i).key.length + (Q i).val.length ≤ 2000)) (fun _ i _ => llen - (RowKit.intOf i).toNat)
  case atStart => exact ⟨0, none, 0, rfl, rfl, hide ⟨Nat.zero_le _, World.ownsRow_nil _ _ _ _, Fr.refl _ _, fun i hi => by omega⟩⟩
  case round =>
    obtain ⟨k, pp, pc, rfl, rfl, HJ⟩ := hrel
    by_cases hlt : k < llen
    · have hlt' : ((k : Int) < llen) = True := by simp; omega
      have hkl : (k : Int) < llen := by omega
      obtain ⟨⟨xb, xo, rfl, x0, x1⟩, sl, m1, m2⟩ := (unhide HQ) k hlt
      have c0 := (unhide HJ).2.2.1.cell' x0 fun y => y
      have c1 := (unhide HJ).2.2.1.cell' x1 fun y => y
      obtain ⟨key, hkey⟩ : ∃ x, (Q k).key = x := ⟨_, rfl⟩
      obtain ⟨qa, hqa⟩ : ∃ x, (Q k).a = x := ⟨_, rfl⟩
      obtain ⟨ql, hql⟩ : ∃ x, (Q k).len = x := ⟨_, rfl⟩
      obtain ⟨qc, hqc⟩ : ∃ x, (Q k).cap = x := ⟨_, rfl⟩
      obtain ⟨val, hval⟩ : ∃ x, (Q k).val = x := ⟨_, rfl⟩
      rw [hkey] at x0 c0 m1
      rw [hqa, hql, hqc] at x1 c1 sl
      rw [hval] at sl
      rw [hql] at m2
      have hks := bs_size key
      have hk40 : k < 40 := by have := unhide G2; omega
      have hwr : wrap64 ((key.length : Int) + ql) = (key.length : Int) + ql := by unfold wrap64; omega
      by_cases hbig : 2000 < key.length + ql
      · have hb' : ((2000 : Int) < (key.length : Int) + ql) = True := by simp; omega
        clear hlt hbig x0 x1 sl m1 m2 hkey hqa hql hqc hval
        go_wp2_with fail
        go_quiet (fail)
        go_wp2_with fail
        refine (unhide HA _ ((unhide HJ).2.2.1.trans ((Fr.refl _ _).drewN _))).mono ?_
        rintro e wa ⟨rfl, sa⟩
        have SA := hide (((unhide HJ).2.2.1.trans ((Fr.refl _ _).drewN _)).trans sa)
        clear sa HA
        go_wp2
        go_ret
        exact ⟨rfl, (unhide SA).below (Nat.le_refl _) fun _ x => x.elim⟩
      · have hb' : ((2000 : Int) < (key.length : Int) + ql) = False := by simp; omega
        have SS : ∀ u, Still W u → u.cell? ⟨xb, xo + k * 2, none⟩ = some (sv key) ∧ u.cell? ⟨xb, xo + k * 2 + 1, none⟩ = some (.slice qa ql qc) ∧ (convert 22 9 (.slice qa ql qc)).run Tryd.prog u = .ok (sv val) u := fun u h => ⟨h.cell' x0 fun y => y, h.cell' x1 fun y => y, conv_rd u qa ql qc val sl.len (sl.rd.still h)⟩
        have HX := hide (And.intro hlt (And.intro hkey (And.intro hval (show key.length + val.length ≤ 2000 by rw [← sl.len]; omega))))
        clear hlt hbig x0 x1 sl m1 m2 hkey hqa hql hqc hval
        go_wp2_with fail
        go_quiet (fail)
        have fq : Still wr (wr.drewN nq) := (Fr.refl _ wr).drewN _
        obtain ⟨wd, hwd⟩ : ∃ x, wr.drewN nq = x := ⟨_, rfl⟩
        rw [hwd] at fq ⊢
        have A_d := hide ((unhide HJ).2.2.1.trans fq)
        have HR := hide (show Row2 wd W.heap.size 32 (.slice pp k pc) (fun i => sv (Q i).key) (fun i => sv (Q i).val) k from (unhide HJ).2.1.keep fq)
        clear fq hwd c0 c1
        go_wp2_with fail
        obtain ⟨we, hwe⟩ : ∃ x, wd.drew = x := ⟨_, rfl⟩
        have fe : Still wd we := by rw [← hwe]; exact (Fr.refl _ wd).drew
        have A_e := hide ((unhide A_d).trans fe)
        refine wp_region_held_drew (S := fun u => u.cell? ⟨xb, xo + k * 2, none⟩ = some (sv key) ∧ u.cell? ⟨xb, xo + k * 2 + 1, none⟩ = some (.slice qa ql qc) ∧ (convert 22 9 (.slice qa ql qc)).run Tryd.prog u = .ok (sv val) u) (by kernel_rfl) (by rw [hwe]; exact SS _ (unhide A_e)) (fun hHeld => ?_)
        rw [hwe] at hHeld ⊢
        obtain ⟨pa, pq, u2, hap, o2, f2, -⟩ := row_more infoP rfl (by decide) (by decide) Tryd.underlying28 we W.heap.size (.slice pp k pc) k _ ((unhide HR).keep fe) [sv key, sv val] rfl (by simp [Value.oneCell']) (by omega) (unhide A_e).size
        have hsu := twoC_succ (fun i => sv (Q i).key) (fun i => sv (Q i).val) k
        simp only [(unhide HX).2.1, (unhide HX).2.2.1] at hsu
        rw [← hsu] at o2
        have A_f := hide ((unhide A_e).trans' f2 fun g hg => .inr ((unhide HR).lt g hg).1)
        have HE := hide (show Row2 u2 W.heap.size 32 (.slice pa (k + 1) pq) (fun i => sv (Q i).key) (fun i => sv (Q i).val) (k + 1) from o2)
        have HAP := hide hap
        have A_g := hide ((unhide A_e).alloc (.cells #[sv key, sv val] 32))
        clear hap hsu o2 f2 fe hwe
        refine take_l 0 (v := ?_) rfl (by kernel_rfl) (by kernel_rfl) (by kernel_rfl) (fun _ _ _ h => h) (Or.inl ⟨by rfl, ?_⟩) hHeld ?_
        rotate_left
        · (intro w hSw; (try dsimp only at hSw); go_simp; (try with_reducible rfl))
        simp only [Act.put, List.setIfInBounds_toArray, List.set_cons_zero, List.set_cons_succ]
        refine take_l 1 (v := ?_) rfl (by kernel_rfl) (by kernel_rfl) (by kernel_rfl) (fun _ _ _ h => h) (Or.inl ⟨by rfl, ?_⟩) hHeld ?_
        rotate_left
        · (intro w hSw; (try dsimp only at hSw); go_simp; (try with_reducible rfl))
        simp only [Act.put, List.setIfInBounds_toArray, List.set_cons_zero, List.set_cons_succ]
        refine take_l 2 (v := ?_) rfl (by kernel_rfl) (by kernel_rfl) (by kernel_rfl) (fun _ _ _ h => h) (Or.inl ⟨by rfl, ?_⟩) hHeld ?_
        rotate_left
        · (intro w hSw; (try dsimp only at hSw); go_simp; (try with_reducible rfl))
        simp only [Act.put, List.setIfInBounds_toArray, List.set_cons_zero, List.set_cons_succ]
        refine take_l 3 (v := ?_) rfl (by kernel_rfl) (by kernel_rfl) (by kernel_rfl) (fun _ _ _ h => h) (Or.inl ⟨by rfl, ?_⟩) hHeld ?_
        rotate_left
        · (intro w hSw; (try dsimp only at hSw); go_simp; (try with_reducible rfl))
        simp only [Act.put, List.setIfInBounds_toArray, List.set_cons_zero, List.set_cons_succ]
        refine take_l 4 (v := ?_) rfl (by kernel_rfl) (by kernel_rfl) (by kernel_rfl) (fun _ _ _ h => h) (Or.inl ⟨by rfl, ?_⟩) hHeld ?_
        rotate_left
        · (intro w hSw; (try dsimp only at hSw); go_simp; (try with_reducible rfl))
        simp only [Act.put, List.setIfInBounds_toArray, List.set_cons_zero, List.set_cons_succ]
        refine take_l 5 (v := ?_) rfl (by kernel_rfl) (by kernel_rfl) (by kernel_rfl) (fun _ _ _ h => h) (Or.inl ⟨by rfl, ?_⟩) hHeld ?_
        rotate_left
        · (intro w hSw; (try dsimp only at hSw); go_simp; (try with_reducible rfl))
        simp only [Act.put, List.setIfInBounds_toArray, List.set_cons_zero, List.set_cons_succ]
        refine take_l 6 (v := ?_) rfl (by kernel_rfl) (by kernel_rfl) (by kernel_rfl) (fun _ _ _ h => h) (Or.inl ⟨by rfl, ?_⟩) hHeld ?_
        rotate_left
        · (intro w hSw; (try dsimp only at hSw); go_simp; (try with_reducible rfl))
        simp only [Act.put, List.setIfInBounds_toArray, List.set_cons_zero, List.set_cons_succ]
        refine take_l 7 (v := ?_) rfl (by kernel_rfl) (by kernel_rfl) (by kernel_rfl) (fun _ _ _ h => h) (Or.inl ⟨by rfl, ?_⟩) hHeld ?_
        rotate_left
        · (intro w hSw; (try dsimp only at hSw); go_simp; (try with_reducible rfl))
        simp only [Act.put, List.setIfInBounds_toArray, List.set_cons_zero, List.set_cons_succ]
        refine take_l 8 (v := ?_) rfl (by kernel_rfl) (by kernel_rfl) (by kernel_rfl) (fun _ _ _ h => h) (Or.inl ⟨by rfl, ?_⟩) hHeld ?_
        rotate_left
        · (intro w hSw; (try dsimp only at hSw); go_simp; (try with_reducible rfl))
        simp only [Act.put, List.setIfInBounds_toArray, List.set_cons_zero, List.set_cons_succ]
        refine take_l 9 (v := ?_) rfl (by kernel_rfl) (by kernel_rfl) (by kernel_rfl) (fun _ _ _ h => h) (Or.inl ⟨by rfl, ?_⟩) hHeld ?_
        rotate_left
        · (intro w hSw; (try dsimp only at hSw); go_simp; (try with_reducible rfl))
        simp only [Act.put, List.setIfInBounds_toArray, List.set_cons_zero, List.set_cons_succ]
        refine take_l 10 (v := ?_) rfl (by kernel_rfl) (by kernel_rfl) (by kernel_rfl) (fun _ _ _ h => h) (Or.inl ⟨by rfl, ?_⟩) hHeld ?_
        rotate_left
        · (intro w hSw; (try dsimp only at hSw); go_simp; (try with_reducible rfl))
        simp only [Act.put, List.setIfInBounds_toArray, List.set_cons_zero, List.set_cons_succ]
        refine take_l 11 (v := ?_) rfl (by kernel_rfl) (by kernel_rfl) (by kernel_rfl) (fun _ _ _ h => h) (Or.inl ⟨by rfl, ?_⟩) hHeld ?_
        rotate_left
        · (intro w hSw; (try dsimp only at hSw); go_simp; (try with_reducible rfl))
        simp only [Act.put, List.setIfInBounds_toArray, List.set_cons_zero, List.set_cons_succ]
        refine take_l 12 (v := ?_) rfl (by kernel_rfl) (by kernel_rfl) (by kernel_rfl) (fun _ _ _ h => h) (Or.inl ⟨by rfl, ?_⟩) hHeld ?_
        rotate_left
        · (intro w hSw; (try dsimp only at hSw); go_simp; (try with_reducible rfl))
        simp only [Act.put, List.setIfInBounds_toArray, List.set_cons_zero, List.set_cons_succ]
        refine wpAnyH_ready (rs := [13]) (by kernel_rfl) (by simp) ?_
        refine AllReadyH.cons rfl (fun K hK => ?_) AllReadyH.nil
        go_simp
        refine hK.out _ _ (SS _ (unhide A_g)) (fun hHeld => ?_)
        clear hK K hHeld
        refine wpAnyH_ready (rs := [14]) (by kernel_rfl) (by simp) ?_
        refine AllReadyH.cons rfl (fun K hK => ?_) AllReadyH.nil
        refine step_append_run rfl (.tmp 64) (.tmp 77) 28 rfl _ _ rfl rfl _ u2 (unhide HAP) ?_
        simp only [Act.put, List.setIfInBounds_toArray]
        refine hK.out _ _ (SS _ (unhide A_f)) (fun hHeld => ?_)
        clear hK K hHeld
        refine wpAnyH_ready (rs := [15]) (by kernel_rfl) (by simp) ?_
        refine AllReadyH.cons rfl (fun K hK => ?_) AllReadyH.nil
        go_simp
        refine hK.out _ _ (SS _ (unhide A_f)) (fun hHeld => ?_)
        clear hK K hHeld
        refine wpAnyH_done (by kernel_rfl) ?_ _
        go_wp2
        exact ⟨⟨k + 1, pa, pq, by go_num, rfl, hide ⟨by have := (unhide HX).1; omega, unhide HE, unhide A_f, fun i hi => by
          by_cases hik : i = k
          · rw [hik, (unhide HX).2.1, (unhide HX).2.2.1]; exact (unhide HX).2.2.2
          · exact (unhide HJ).2.2.2 i (by omega)⟩⟩, by have := (unhide HX).1; simp [RowKit.intOf]; omega⟩
    · have hlt' : ((k : Int) < llen) = False := by simp; omega
      obtain rfl : k = llen := by have := (unhide HJ).1; omega
      obtain ⟨w1, rfl⟩ : ∃ w1, w1 = wr := ⟨_, rfl⟩
      clear hlt
      go_wp2_with fail
      go_loopw [17, 18, 19] (fun z x i wr => ∃ (k : Nat) (zp : Option Addr) (zc : Nat) (xp : Option Addr) (xc : Nat), i = iv k ∧ z = .slice zp k zc ∧ x = .slice xp k xc ∧ Hid (k ≤ nmlen ∧ k ≤ btlen ∧ Row2 wr w1.heap.size 39 (.slice zp k zc) (fun i => sv (S i)) (fun i => .float .f64 (f i)) k ∧ RowF wr w1.heap.size (.slice xp k xc) f k ∧ Still w1 wr ∧ ∀ i, i < k → (S i).length ≤ 200)) (fun _ _ i _ => nmlen - (RowKit.intOf i).toNat)
      case atStart => exact ⟨0, none, 0, none, 0, rfl, rfl, rfl, hide ⟨Nat.zero_le _, Nat.zero_le _, World.ownsRow_nil _ _ _ _, World.ownsRow_nil _ _ _ _, Fr.refl _ _, fun i hi => by omega⟩⟩
      case round =>
        obtain ⟨j, zp, zc, xp, xc, rfl, rfl, rfl, HM⟩ := hrel
        have A_r := hide ((unhide HJ).2.2.1.trans (unhide HM).2.2.2.2.1)
        by_cases hlt : j < nmlen ∧ j < btlen
        · have h1' : ((j : Int) < nmlen) = True := by simp; omega
          have h2' : ((j : Int) < btlen) = True := by simp; omega
          have hj1 : (j : Int) < nmlen := by omega
          have hj2 : (j : Int) < btlen := by omega
          have hj40 : j < 40 := by have := unhide G4; omega
          obtain ⟨nb, no, rfl, x0⟩ := (unhide HS).1 j hlt.1
          obtain ⟨ub, uo, rfl, x1⟩ := (unhide HU).2 j hlt.2
          have c0 := (unhide A_r).cell' x0 fun y => y
          have c1 := (unhide A_r).cell' x1 fun y => y
          obtain ⟨nam, hnam⟩ : ∃ x, S j = x := ⟨_, rfl⟩
          obtain ⟨fj, hfj⟩ : ∃ x, f j = x := ⟨_, rfl⟩
          rw [hnam] at x0 c0
          rw [hfj] at x1 c1
          have hks := bs_size nam
          by_cases hbig : 200 < nam.length
          · have hb' : ((200 : Int) < nam.length) = True := by simp; omega
            clear hlt hbig x0 x1 hnam hfj
            go_wp2_with fail
            refine (unhide HA _ (unhide A_r)).mono ?_
            rintro e wa ⟨rfl, sa⟩
            have SA := hide ((unhide A_r).trans sa)
            clear sa HA
            go_wp2
            go_ret
            exact ⟨rfl, (unhide SA).below (Nat.le_refl _) fun _ x => x.elim⟩
          · have hb' : ((200 : Int) < nam.length) = False := by simp; omega
            have SS : ∀ u, Still W u → u.cell? ⟨nb, no + j, none⟩ = some (sv nam) := fun u h => h.cell' x0 fun y => y
            have HX := hide (And.intro hlt (And.intro hnam (And.intro hfj (show nam.length ≤ 200 by omega))))
            have hfr := from_run
            have hsc : Row2 wr w1.heap.size 39 (.slice zp j zc) (fun i => sv (S i)) (fun i => .float .f64 (f i)) j := (unhide HM).2.2.1
            have hxr : RowF wr w1.heap.size (.slice xp j xc) f j := (unhide HM).2.2.2.1
            obtain ⟨xa, xq, u2, hap, o2, f2, -⟩ := row_more infoF rfl (by decide) (by decide) Tryd.underlying34 wr w1.heap.size (.slice xp j xc) j _ hxr [.float .f64 fj] rfl (by simp [Value.oneCell']) (by omega) (unhide HM).2.2.2.2.1.size
            have o3 : RowF u2 w1.heap.size (.slice xa (j + 1) xq) f (j + 1) := by
              unfold RowF
              rw [List.range_succ, List.map_append, List.map_cons, List.map_nil, hfj]
              exact o2
            have s2 : Still w1 u2 := (unhide HM).2.2.2.2.1.trans' f2 fun g hg => .inr (hxr.lt g hg).1
            have hsc2 : Row2 u2 w1.heap.size 39 (.slice zp j zc) (fun i => sv (S i)) (fun i => .float .f64 (f i)) j := owns_same hsc fun q hq => f2.block q (hsc.lt q hq).2 fun e => rows_apart hsc hxr (by decide) q hq e
            have A_2 := hide ((unhide HJ).2.2.1.trans s2)
            obtain ⟨gx, hgx, y1⟩ : ∃ gx, xa = some ⟨gx, 0, none⟩ ∧ u2.cell? ⟨gx, j, none⟩ = some (.float .f64 fj) := by
              rcases o3.form with ⟨_, e⟩ | ⟨g, e, hc⟩
              · omega
              · exact ⟨g, e, by rw [hc j (by omega), hfj]⟩
            subst hgx
            have hgx2 : gx < u2.heap.size := World.block_lt_of_cell? u2 _ y1
            have HO := hide (And.intro o3 (And.intro s2 hsc2))
            have HAP := hide hap
            clear hap o2 f2 o3 s2 hsc2 hsc hxr hlt hbig x0 x1 hnam hfj
            go_wp2_with (at_builtin; refine wpList_append_run rfl (.tmp 98) (.tmp 104) 34 rfl _ _ rfl rfl (.slice (some ⟨gx, 0, none⟩) (j + 1) xq) u2 (unhide HAP) ?_)
            go_wp2_with fail
            clear HAP c0 c1
            obtain ⟨we, hwe⟩ : ∃ x, u2.drew = x := ⟨_, rfl⟩
            have fe : Still u2 we := by rw [← hwe]; exact (Fr.refl _ u2).drew
            have A_e := hide ((unhide A_2).trans fe)
            have z1 : ∀ u, Still u2 u → u.cell? ⟨gx, j, none⟩ = some (.float .f64 fj) := fun u h => h.cell' y1 fun y => y
            refine wp_region_held_drew (S := fun u => u.cell? ⟨nb, no + j, none⟩ = some (sv nam) ∧ u.cell? ⟨gx, j, none⟩ = some (.float .f64 fj)) (by kernel_rfl) (by rw [hwe]; exact ⟨SS _ (unhide A_e), z1 _ fe⟩) (fun hHeld => ?_)
            rw [hwe] at hHeld ⊢
            have hr3 := (unhide HO).2.2.keep fe
            have hx3 := (unhide HO).1.keep fe
            obtain ⟨pa, pq, u3, hap, o4, f4, -⟩ := row_more infoM rfl (by decide) (by decide) Tryd.underlying33 we w1.heap.size (.slice zp j zc) j _ hr3 [sv nam, .float .f64 fj] rfl (by simp [Value.oneCell']) (by omega) ((unhide HO).2.1.trans fe).size
            have hsu := twoC_succ (fun i => sv (S i)) (fun i => .float .f64 (f i)) j
            simp only [(unhide HX).2.1, (unhide HX).2.2.1] at hsu
            rw [← hsu] at o4
            have s5 : Still w1 u3 := ((unhide HO).2.1.trans fe).trans' f4 fun g hg => .inr (hr3.lt g hg).1
            have A_f := hide ((unhide HJ).2.2.1.trans s5)
            have hx5 : RowF u3 w1.heap.size (.slice (some ⟨gx, 0, none⟩) (j + 1) xq) f (j + 1) := owns_same hx3 fun q hq => f4.block q (hx3.lt q hq).2 fun e => rows_apart hx3 hr3 (by decide) q hq e
            have z5 : u3.cell? ⟨gx, j, none⟩ = some (.float .f64 fj) := f4.cell' (z1 _ fe) fun e => rows_apart hx3 hr3 (by decide) gx rfl e
            have HE := hide (And.intro (show Row2 u3 w1.heap.size 39 (.slice pa (j + 1) pq) (fun i => sv (S i)) (fun i => .float .f64 (f i)) (j + 1) from o4) (And.intro hx5 s5))
            have HAP := hide hap
            have A_g := hide (And.intro ((unhide A_e).alloc (.cells #[sv nam, .float .f64 fj] 39)) (z1 _ (fe.alloc (.cells #[sv nam, .float .f64 fj] 39))))
            clear hap hsu o4 f4 fe hwe hr3 hx3 hx5 s5 y1
            have hjj : (j : Int) < (j : Int) + 1 := by omega
            refine take_l 0 (v := ?_) rfl (by kernel_rfl) (by kernel_rfl) (by kernel_rfl) (fun _ _ _ h => h) (Or.inl ⟨by rfl, ?_⟩) hHeld ?_
            rotate_left
            · (intro w hSw; (try dsimp only at hSw); go_simp; (try with_reducible rfl))
            simp only [Act.put, List.setIfInBounds_toArray, List.set_cons_zero, List.set_cons_succ]
            refine take_l 1 (v := ?_) rfl (by kernel_rfl) (by kernel_rfl) (by kernel_rfl) (fun _ _ _ h => h) (Or.inl ⟨by rfl, ?_⟩) hHeld ?_
            rotate_left
            · (intro w hSw; (try dsimp only at hSw); go_simp; (try with_reducible rfl))
            simp only [Act.put, List.setIfInBounds_toArray, List.set_cons_zero, List.set_cons_succ]
            refine take_l 2 (v := ?_) rfl (by kernel_rfl) (by kernel_rfl) (by kernel_rfl) (fun _ _ _ h => h) (Or.inl ⟨by rfl, ?_⟩) hHeld ?_
            rotate_left
            · (intro w hSw; (try dsimp only at hSw); go_simp; (try with_reducible rfl))
            simp only [Act.put, List.setIfInBounds_toArray, List.set_cons_zero, List.set_cons_succ]
            refine take_l 3 (v := ?_) rfl (by kernel_rfl) (by kernel_rfl) (by kernel_rfl) (fun _ _ _ h => h) (Or.inl ⟨by rfl, ?_⟩) hHeld ?_
            rotate_left
            · (intro w hSw; (try dsimp only at hSw); go_simp; (try with_reducible rfl))
            simp only [Act.put, List.setIfInBounds_toArray, List.set_cons_zero, List.set_cons_succ]
            refine take_l 4 (v := ?_) rfl (by kernel_rfl) (by kernel_rfl) (by kernel_rfl) (fun _ _ _ h => h) (Or.inl ⟨by rfl, ?_⟩) hHeld ?_
            rotate_left
            · (intro w hSw; (try dsimp only at hSw); go_simp; (try with_reducible rfl))
            simp only [Act.put, List.setIfInBounds_toArray, List.set_cons_zero, List.set_cons_succ]
            refine take_l 5 (v := ?_) rfl (by kernel_rfl) (by kernel_rfl) (by kernel_rfl) (fun _ _ _ h => h) (Or.inl ⟨by rfl, ?_⟩) hHeld ?_
            rotate_left
            · (intro w hSw; (try dsimp only at hSw); go_simp; (try with_reducible rfl))
            simp only [Act.put, List.setIfInBounds_toArray, List.set_cons_zero, List.set_cons_succ]
            refine take_l 6 (v := ?_) rfl (by kernel_rfl) (by kernel_rfl) (by kernel_rfl) (fun _ _ _ h => h) (Or.inl ⟨by rfl, ?_⟩) hHeld ?_
            rotate_left
            · (intro w hSw; (try dsimp only at hSw); go_simp; (try with_reducible rfl))
            simp only [Act.put, List.setIfInBounds_toArray, List.set_cons_zero, List.set_cons_succ]
            refine take_l 7 (v := ?_) rfl (by kernel_rfl) (by kernel_rfl) (by kernel_rfl) (fun _ _ _ h => h) (Or.inl ⟨by rfl, ?_⟩) hHeld ?_
            rotate_left
            · (intro w hSw; (try dsimp only at hSw); go_simp; (try with_reducible rfl))
            simp only [Act.put, List.setIfInBounds_toArray, List.set_cons_zero, List.set_cons_succ]
            refine take_l 8 (v := ?_) rfl (by kernel_rfl) (by kernel_rfl) (by kernel_rfl) (fun _ _ _ h => h) (Or.inl ⟨by rfl, ?_⟩) hHeld ?_
            rotate_left
            · (intro w hSw; (try dsimp only at hSw); go_simp; (try with_reducible rfl))
            simp only [Act.put, List.setIfInBounds_toArray, List.set_cons_zero, List.set_cons_succ]
            refine take_l 9 (v := ?_) rfl (by kernel_rfl) (by kernel_rfl) (by kernel_rfl) (fun _ _ _ h => h) (Or.inl ⟨by rfl, ?_⟩) hHeld ?_
            rotate_left
            · (intro w hSw; (try dsimp only at hSw); go_simp; (try with_reducible rfl))
            simp only [Act.put, List.setIfInBounds_toArray, List.set_cons_zero, List.set_cons_succ]
            refine wpAnyH_ready (rs := [10]) (by kernel_rfl) (by simp) ?_
            refine AllReadyH.cons rfl (fun K hK => ?_) AllReadyH.nil
            go_simp
            refine hK.out _ _ ⟨SS _ (unhide A_g).1, (unhide A_g).2⟩ (fun hHeld => ?_)
            clear hK K hHeld
            refine wpAnyH_ready (rs := [11]) (by kernel_rfl) (by simp) ?_
            refine AllReadyH.cons rfl (fun K hK => ?_) AllReadyH.nil
            refine step_append_run rfl (.tmp 106) (.tmp 116) 33 rfl _ _ rfl rfl _ u3 (unhide HAP) ?_
            simp only [Act.put, List.setIfInBounds_toArray]
            refine hK.out _ _ ⟨SS _ (unhide A_f), z5⟩ (fun hHeld => ?_)
            clear hK K hHeld
            refine wpAnyH_ready (rs := [12]) (by kernel_rfl) (by simp) ?_
            refine AllReadyH.cons rfl (fun K hK => ?_) AllReadyH.nil
            go_simp
            refine hK.out _ _ ⟨SS _ (unhide A_f), z5⟩ (fun hHeld => ?_)
            clear hK K hHeld
            refine wpAnyH_done (by kernel_rfl) ?_ _
            go_wp2
            exact ⟨⟨j + 1, pa, pq, _, xq, by go_num, rfl, rfl, hide ⟨by have := (unhide HX).1; omega, by have := (unhide HX).1; omega, (unhide HE).1, (unhide HE).2.1, (unhide HE).2.2, fun i hi => by
              by_cases hik : i = j
              · rw [hik, (unhide HX).2.1]; exact (unhide HX).2.2.2
              · exact (unhide HM).2.2.2.2.2 i (by omega)⟩⟩, by have := (unhide HX).1.1; simp [RowKit.intOf]; omega⟩
        · obtain ⟨w2, rfl⟩ : ∃ w2, w2 = wr := ⟨_, rfl⟩
          have hend : ((j : Int) < nmlen) = False ∨ ((j : Int) < nmlen) = True ∧ ((j : Int) < btlen) = False := by
            by_cases h1 : j < nmlen
            · refine .inr ⟨by simp; omega, ?_⟩
              have : ¬ j < btlen := fun h2 => hlt ⟨h1, h2⟩
              simp; omega
            · left; simp; omega
          have hj40 : j ≤ 40 := by have := unhide G4; have := (unhide HM).1; omega
          clear hlt
          rcases hend with h1' | ⟨h1', h2'⟩
          all_goals
            go_wp2_with fail
            go_loop [20] (fun i => ∃ m : Nat, i = iv m ∧ Hid (m ≤ nlen ∧ ∀ q, q < m → zs q ≠ -9223372036854775808)) (fun i => nlen - (RowKit.intOf i).toNat)
            case atStart => exact ⟨0, rfl, hide ⟨Nat.zero_le _, fun q hq => by omega⟩⟩
            case round =>
              obtain ⟨m, rfl, HI⟩ := hrel
              by_cases hlt : m < nlen
              · have hlt' : ((m : Int) < nlen) = True := by simp; omega
                have hml : (m : Int) < nlen := by omega
                have hm100 : m < 100 := by have := unhide G3; omega
                obtain ⟨xb, xo, rfl, x0⟩ := (unhide HN).1 m hlt
                have c0 := (unhide A_r).cell' x0 fun y => y
                obtain ⟨zz, hzz⟩ : ∃ z, zs m = z := ⟨_, rfl⟩
                rw [hzz] at c0
                by_cases hlo : zz = -9223372036854775808
                · have hb' : (zz == -9223372036854775808) = true := by simp [hlo]
                  clear hlt x0 hzz hlo
                  go_wp2_with fail
                  refine (unhide HA _ (unhide A_r)).mono ?_
                  rintro e wa ⟨rfl, sa⟩
                  have SA := hide ((unhide A_r).trans sa)
                  clear sa HA
                  go_wp2
                  go_ret
                  exact ⟨rfl, (unhide SA).below (Nat.le_refl _) fun _ x => x.elim⟩
                · have hb' : (zz == -9223372036854775808) = false := by simp [hlo]
                  have HX := hide (And.intro hlt (And.intro hzz hlo))
                  clear hlt x0 hzz hlo
                  go_wp2
                  exact ⟨⟨m + 1, by go_num, hide ⟨by have := (unhide HX).1; omega, fun q hq => by
                    by_cases hqm : q = m
                    · rw [hqm, (unhide HX).2.1]; exact (unhide HX).2.2
                    · exact (unhide HI).2 q (by omega)⟩⟩, by have := (unhide HX).1; simp [RowKit.intOf]; omega⟩
              · have hlt' : ((m : Int) < nlen) = False := by simp; omega
                obtain rfl : m = nlen := by have := (unhide HI).1; omega
                have hm100 : m ≤ 100 := unhide G3
                have hfl : Fls w2 xp j f := (unhide HM).2.2.2.1.fls
                have HLe := hide (refLeast_ok xp j xc f hfl (by omega) (unhide HU).1)
                have HMo := hide (refMost_ok xp j xc f hfl (by omega) (unhide HU).1)
                have HSu := hide (fun u (h : Still w2 u) => refSum_ok xp j xc f (hfl.still h) (by omega) (unhide HU).1)
                have hst : ∀ (a : Addr) (x : Nat) m w, (store a (.float .f64 x) m).run Tryd.prog w = stored Tryd.prog w a (.float .f64 x) m := fun a x m w => run_store Tryd.prog w a _ m rfl
                clear hlt hfl
                go_wp2_with fail
                refine (unhide HLe).mono ?_
                rintro e wx ⟨⟨b1, hb1, rfl⟩, hx⟩
                replace hx := hx.symm
                subst hx
                go_wp2_with fail
                refine (unhide HMo).mono ?_
                rintro e wx ⟨⟨b2, hb2, rfl⟩, hx⟩
                replace hx := hx.symm
                subst hx
                go_wp2_with fail
                refine (unhide HSu _ (Fr.refl _ _)).mono ?_
                rintro e w3 ⟨⟨b3, hb3, rfl⟩, s3⟩
                have S3 := hide s3
                clear s3
                go_wp2_with fail
                refine (unhide HSu _ (unhide S3)).mono ?_
                rintro e w4 ⟨⟨b4, hb4, rfl⟩, s4⟩
                have S4 := hide ((unhide S3).trans s4)
                clear s4 HLe HMo HSu
                go_wp2_with fail
                obtain ⟨WS, hWS⟩ : ∃ x, w4.alloc (.cells #[iv j, .float .f64 b1, .float .f64 b2, .float .f64 b3, .float .f64 b4] 42) = x := ⟨_, rfl⟩
                have o0 : WS.heap[w4.heap.size]? = some (.cells #[iv j, .float .f64 b1, .float .f64 b2, .float .f64 b3, .float .f64 b4] 42) := by rw [← hWS]; exact heap_alloc_new w4 _
                have s0 : Still w2 WS := by rw [← hWS]; exact (unhide S4).alloc _
                have sW : Still W WS := (unhide A_r).trans s0
                rw [hWS]
                obtain ⟨sb, hsb⟩ : ∃ x, w4.heap.size = x := ⟨_, rfl⟩
                rw [hsb] at o0 ⊢
                obtain ⟨T1, t1⟩ := tellsD b1 hb1
                obtain ⟨T2, t2⟩ := tellsD b2 hb2
                obtain ⟨T3, t3⟩ := tellsD b3 hb3
                obtain ⟨T4, t4⟩ := tellsD b4 hb4
                obtain ⟨T, hT⟩ : ∃ T : Nat → List UInt8, ∀ i, ToldD (f i) (T i) := ⟨fun i => Classical.choose (tellsD (f i) ((unhide HU).1 i)), fun i => Classical.choose_spec (tellsD (f i) ((unhide HU).1 i))⟩
                have A_0 := hide (show Still WS WS from Fr.refl _ WS)
                have K1 := fun u (h : Still WS u) => (unhide HK).still (sW.trans h)
                have hblen := (unhide HB).len
                have hb2000 : bb.length ≤ 2000 := by have := unhide G1; omega
                have hl40 : k ≤ 40 := unhide G2
                have hps : ∀ a v, (a, v) ∈ psQ Q k → a.length ≤ 10000 ∧ v.length ≤ 10000 := fun a v h => by
                  obtain ⟨i, hi⟩ := List.getElem?_of_mem h
                  obtain ⟨hin, rfl, rfl⟩ := psQ_get hi
                  have := (unhide HJ).2.2.2 i hin
                  omega
                have hpl := psQ_len Q k
                obtain ⟨EE, hEE⟩ : ∃ x, errL e = x := ⟨_, rfl⟩
                obtain ⟨VV, hVV⟩ : ∃ x, valueL [86,65,76,85,69] bb = x := ⟨_, rfl⟩
                obtain ⟨PP, hPP⟩ : ∃ x, pairsL (psQ Q k) = x := ⟨_, rfl⟩
                obtain ⟨BB, hBB⟩ : ∃ x, boolL yes = x := ⟨_, rfl⟩
                have CE := hide (fun u => rerr_ok e u)
                have CDE := hide (fun u => derr_ok e u)
                have CV := hide (fun u (h : Still WS u) => rvalue_ok (K1 u h) bb b bcap ((unhide HB).rd.still (sW.trans h)) (by omega))
                have CDV := hide (fun u => dvalue_ok bb (by omega) u)
                have CP := hide (fun u (h : Still WS u) => rpairs_ok (K1 u h) l lcap (psQ Q k) ((unhide HQ).still (sW.trans h)).prs (by omega) hps)
                have CDP := hide (fun u (h : Still WS u) => dpairs_ok (w := u) pp pc (psQ Q k) ((unhide HJ).2.1.keep (((unhide HM).2.2.2.2.1.trans s0).trans h)).prs16 (by omega) hps)
                have CB := hide (fun u => rbool_ok yes u)
                have CDB := hide (fun u => dbool_ok yes u)
                rw [hpl, hPP] at CP CDP
                rw [hEE] at CE CDE
                rw [hVV] at CV CDV
                rw [← hblen] at CV
                rw [hBB] at CB CDB
                have SS : ∀ u, Still WS u → (convert 22 9 (.slice b blen bcap)).run Tryd.prog u = .ok (sv bb) u := fun u h => conv_rd u b blen bcap bb hblen ((unhide HB).rd.still (sW.trans h))
                have qE : ((bs EE).toList == (bs EE).toList) = true := by simp
                have qV : ((bs VV).toList == (bs VV).toList) = true := by simp
                have qP : ((bs PP).toList == (bs PP).toList) = true := by simp
                have qB : ((bs BB).toList == (bs BB).toList) = true := by simp
                have HT := hide (And.intro t1 (And.intro t2 (And.intro t3 (And.intro t4 hT))))
                have HW := hide (And.intro sW (And.intro s0 o0))
                have HK1 := hide K1
                clear hWS o0 s0 sW hsb t1 t2 t3 t4 hT K1 hblen hb2000 hps hpl hEE hVV hPP hBB hb1 hb2 hb3 hb4 S3 S4
                obtain ⟨WA, hWA⟩ : ∃ x, WS.drew = x := ⟨_, rfl⟩
                have A_1 := hide (show Still WS WA by rw [← hWA]; exact (Fr.refl _ WS).drew)
                refine wp_region_held_drew (S := fun u => (convert 22 9 (.slice b blen bcap)).run Tryd.prog u = .ok (sv bb) u) (by kernel_rfl) (by rw [hWA]; exact SS _ (unhide A_1)) (fun hHeld => ?_)
                rw [hWA] at hHeld ⊢
                clear hWA
                refine take_l 0 (v := ?_) rfl (by kernel_rfl) (by kernel_rfl) (by kernel_rfl) (fun _ _ _ h => h) (Or.inl ⟨by rfl, ?_⟩) hHeld ?_
                rotate_left
                · (intro w hSw; (try dsimp only at hSw); go_simp; (try with_reducible rfl))
                simp only [Act.put, List.setIfInBounds_toArray, List.set_cons_zero, List.set_cons_succ]
                refine take_l 2 (v := ?_) rfl (by kernel_rfl) (by kernel_rfl) (by kernel_rfl) (fun _ _ _ h => h) (Or.inl ⟨by rfl, ?_⟩) hHeld ?_
                rotate_left
                · (intro w hSw; (try dsimp only at hSw); go_simp; (try with_reducible rfl))
                simp only [Act.put, List.setIfInBounds_toArray, List.set_cons_zero, List.set_cons_succ]
                refine wpAnyH_ready (rs := [1]) (by kernel_rfl) (by simp) ?_
                refine AllReadyH.cons rfl (fun K hK => ?_) AllReadyH.nil
                go_simp
                go_wp2_with fail
                refine (unhide CE _).mono ?_
                rintro e x1 ⟨rfl, s'⟩
                have A_x1 := hide ((unhide A_1).trans s')
                clear hHeld
                refine hK.out _ _ (SS _ (unhide A_x1)) (fun hHeld => ?_)
                clear hK K s'
                refine wpAnyH_ready (rs := [3]) (by kernel_rfl) (by simp) ?_
                refine AllReadyH.cons rfl (fun K hK => ?_) AllReadyH.nil
                go_simp
                go_wp2_with fail
                refine (unhide CDE _).mono ?_
                rintro e wx ⟨rfl, hx⟩
                replace hx := hx.symm
                subst hx
                clear hHeld
                refine hK.out _ _ (SS _ (unhide A_x1)) (fun hHeld => ?_)
                clear hK K
                refine take_l 4 (v := ?_) rfl (by kernel_rfl) (by kernel_rfl) (by kernel_rfl) (fun _ _ _ h => h) (Or.inl ⟨by rfl, ?_⟩) hHeld ?_
                rotate_left
                · (intro w hSw; (try dsimp only at hSw); go_simp; (try with_reducible rfl))
                simp only [Act.put, List.setIfInBounds_toArray, List.set_cons_zero, List.set_cons_succ]
                refine take_l 5 (v := ?_) rfl (by kernel_rfl) (by kernel_rfl) (by kernel_rfl) (fun _ _ _ h => h) (Or.inl ⟨by rfl, ?_⟩) hHeld ?_
                rotate_left
                · (intro w hSw; (try dsimp only at hSw); go_simp; (try with_reducible rfl))
                simp only [Act.put, List.setIfInBounds_toArray, List.set_cons_zero, List.set_cons_succ]
                refine take_l 6 (v := ?_) rfl (by kernel_rfl) (by kernel_rfl) (by kernel_rfl) (fun _ _ _ h => h) (Or.inl ⟨by rfl, ?_⟩) hHeld ?_
                rotate_left
                · (intro w hSw; (try dsimp only at hSw); go_simp; (try with_reducible rfl))
                simp only [Act.put, List.setIfInBounds_toArray, List.set_cons_zero, List.set_cons_succ]
                refine take_l 8 (v := ?_) rfl (by kernel_rfl) (by kernel_rfl) (by kernel_rfl) (fun _ _ _ h => h) (Or.inl ⟨by rfl, ?_⟩) hHeld ?_
                rotate_left
                · (intro w hSw; (try dsimp only at hSw); go_simp; (try with_reducible rfl))
                simp only [Act.put, List.setIfInBounds_toArray, List.set_cons_zero, List.set_cons_succ]
                refine take_l 9 (v := ?_) rfl (by kernel_rfl) (by kernel_rfl) (by kernel_rfl) (fun _ _ _ h => h) (Or.inl ⟨by rfl, ?_⟩) hHeld ?_
                rotate_left
                · (intro w hSw; (try dsimp only at hSw); go_simp; (try with_reducible rfl))
                simp only [Act.put, List.setIfInBounds_toArray, List.set_cons_zero, List.set_cons_succ]
                refine wpAnyH_ready (rs := [7]) (by kernel_rfl) (by simp) ?_
                refine AllReadyH.cons rfl (fun K hK => ?_) AllReadyH.nil
                go_simp
                go_wp2_with fail
                refine (unhide CV _ (unhide A_x1)).mono ?_
                rintro e x2 ⟨rfl, s'⟩
                have A_x2 := hide ((unhide A_x1).trans s')
                clear hHeld
                refine hK.out _ _ (SS _ (unhide A_x2)) (fun hHeld => ?_)
                clear hK K s'
                refine wpAnyH_ready (rs := [10]) (by kernel_rfl) (by simp) ?_
                refine AllReadyH.cons rfl (fun K hK => ?_) AllReadyH.nil
                go_simp
                go_wp2_with fail
                refine (unhide CDV _).mono ?_
                rintro e wx ⟨rfl, hx⟩
                replace hx := hx.symm
                subst hx
                clear hHeld
                refine hK.out _ _ (SS _ (unhide A_x2)) (fun hHeld => ?_)
                clear hK K
                refine take_l 11 (v := ?_) rfl (by kernel_rfl) (by kernel_rfl) (by kernel_rfl) (fun _ _ _ h => h) (Or.inl ⟨by rfl, ?_⟩) hHeld ?_
                rotate_left
                · (intro w hSw; (try dsimp only at hSw); go_simp; (try with_reducible rfl))
                simp only [Act.put, List.setIfInBounds_toArray, List.set_cons_zero, List.set_cons_succ]
                refine take_l 12 (v := ?_) rfl (by kernel_rfl) (by kernel_rfl) (by kernel_rfl) (fun _ _ _ h => h) (Or.inl ⟨by rfl, ?_⟩) hHeld ?_
                rotate_left
                · (intro w hSw; (try dsimp only at hSw); go_simp; (try with_reducible rfl))
                simp only [Act.put, List.setIfInBounds_toArray, List.set_cons_zero, List.set_cons_succ]
                refine take_l 13 (v := ?_) rfl (by kernel_rfl) (by kernel_rfl) (by kernel_rfl) (fun _ _ _ h => h) (Or.inl ⟨by rfl, ?_⟩) hHeld ?_
                rotate_left
                · (intro w hSw; (try dsimp only at hSw); go_simp; (try with_reducible rfl))
                simp only [Act.put, List.setIfInBounds_toArray, List.set_cons_zero, List.set_cons_succ]
                refine take_l 14 (v := ?_) rfl (by kernel_rfl) (by kernel_rfl) (by kernel_rfl) (fun _ _ _ h => h) (Or.inl ⟨by rfl, ?_⟩) hHeld ?_
                rotate_left
                · (intro w hSw; (try dsimp only at hSw); go_simp; (try with_reducible rfl))
                simp only [Act.put, List.setIfInBounds_toArray, List.set_cons_zero, List.set_cons_succ]
                refine take_l 16 (v := ?_) rfl (by kernel_rfl) (by kernel_rfl) (by kernel_rfl) (fun _ _ _ h => h) (Or.inl ⟨by rfl, ?_⟩) hHeld ?_
                rotate_left
                · (intro w hSw; (try dsimp only at hSw); go_simp; (try with_reducible rfl))
                simp only [Act.put, List.setIfInBounds_toArray, List.set_cons_zero, List.set_cons_succ]
                refine wpAnyH_ready (rs := [15]) (by kernel_rfl) (by simp) ?_
                refine AllReadyH.cons rfl (fun K hK => ?_) AllReadyH.nil
                go_simp
                go_wp2_with fail
                refine (unhide CP _ (unhide A_x2)).mono ?_
                rintro e x3 ⟨rfl, s'⟩
                have A_x3 := hide ((unhide A_x2).trans s')
                clear hHeld
                refine hK.out _ _ (SS _ (unhide A_x3)) (fun hHeld => ?_)
                clear hK K s'
                refine wpAnyH_ready (rs := [17]) (by kernel_rfl) (by simp) ?_
                refine AllReadyH.cons rfl (fun K hK => ?_) AllReadyH.nil
                go_simp
                go_wp2_with fail
                refine (unhide CDP _ (unhide A_x3)).mono ?_
                rintro e x4 ⟨rfl, s'⟩
                have A_x4 := hide ((unhide A_x3).trans s')
                clear hHeld
                refine hK.out _ _ (SS _ (unhide A_x4)) (fun hHeld => ?_)
                clear hK K s'
                refine take_l 18 (v := ?_) rfl (by kernel_rfl) (by kernel_rfl) (by kernel_rfl) (fun _ _ _ h => h) (Or.inl ⟨by rfl, ?_⟩) hHeld ?_
                rotate_left
                · (intro w hSw; (try dsimp only at hSw); go_simp; (try with_reducible rfl))
                simp only [Act.put, List.setIfInBounds_toArray, List.set_cons_zero, List.set_cons_succ]
                refine take_l 19 (v := ?_) rfl (by kernel_rfl) (by kernel_rfl) (by kernel_rfl) (fun _ _ _ h => h) (Or.inl ⟨by rfl, ?_⟩) hHeld ?_
                rotate_left
                · (intro w hSw; (try dsimp only at hSw); go_simp; (try with_reducible rfl))
                simp only [Act.put, List.setIfInBounds_toArray, List.set_cons_zero, List.set_cons_succ]
                refine take_l 20 (v := ?_) rfl (by kernel_rfl) (by kernel_rfl) (by kernel_rfl) (fun _ _ _ h => h) (Or.inl ⟨by rfl, ?_⟩) hHeld ?_
                rotate_left
                · (intro w hSw; (try dsimp only at hSw); go_simp; (try with_reducible rfl))
                simp only [Act.put, List.setIfInBounds_toArray, List.set_cons_zero, List.set_cons_succ]
                refine take_l 21 (v := ?_) rfl (by kernel_rfl) (by kernel_rfl) (by kernel_rfl) (fun _ _ _ h => h) (Or.inl ⟨by rfl, ?_⟩) hHeld ?_
                rotate_left
                · (intro w hSw; (try dsimp only at hSw); go_simp; (try with_reducible rfl))
                simp only [Act.put, List.setIfInBounds_toArray, List.set_cons_zero, List.set_cons_succ]
                refine take_l 23 (v := ?_) rfl (by kernel_rfl) (by kernel_rfl) (by kernel_rfl) (fun _ _ _ h => h) (Or.inl ⟨by rfl, ?_⟩) hHeld ?_
                rotate_left
                · (intro w hSw; (try dsimp only at hSw); go_simp; (try with_reducible rfl))
                simp only [Act.put, List.setIfInBounds_toArray, List.set_cons_zero, List.set_cons_succ]
                refine wpAnyH_ready (rs := [22]) (by kernel_rfl) (by simp) ?_
                refine AllReadyH.cons rfl (fun K hK => ?_) AllReadyH.nil
                go_simp
                go_wp2_with fail
                refine (unhide CB _).mono ?_
                rintro e x5 ⟨rfl, s'⟩
                have A_x5 := hide ((unhide A_x4).trans s')
                clear hHeld
                refine hK.out _ _ (SS _ (unhide A_x5)) (fun hHeld => ?_)
                clear hK K s'
                refine wpAnyH_ready (rs := [24]) (by kernel_rfl) (by simp) ?_
                refine AllReadyH.cons rfl (fun K hK => ?_) AllReadyH.nil
                go_simp
                go_wp2_with fail
                refine (unhide CDB _).mono ?_
                rintro e wx ⟨rfl, hx⟩
                replace hx := hx.symm
                subst hx
                clear hHeld
                refine hK.out _ _ (SS _ (unhide A_x5)) (fun hHeld => ?_)
                clear hK K
                refine take_l 25 (v := ?_) rfl (by kernel_rfl) (by kernel_rfl) (by kernel_rfl) (fun _ _ _ h => h) (Or.inl ⟨by rfl, ?_⟩) hHeld ?_
                rotate_left
                · (intro w hSw; (try dsimp only at hSw); go_simp; (try with_reducible rfl))
                simp only [Act.put, List.setIfInBounds_toArray, List.set_cons_zero, List.set_cons_succ]
                refine take_l 26 (v := ?_) rfl (by kernel_rfl) (by kernel_rfl) (by kernel_rfl) (fun _ _ _ h => h) (Or.inl ⟨by rfl, ?_⟩) hHeld ?_
                rotate_left
                · (intro w hSw; (try dsimp only at hSw); go_simp; (try with_reducible rfl))
                simp only [Act.put, List.setIfInBounds_toArray, List.set_cons_zero, List.set_cons_succ]
                refine wpAnyH_done (by kernel_rfl) ?_ _
                clear CE CDE CV CDV CP CDP CB CDB qE qV qP qB SS hHeld
                obtain ⟨nm2, hsl, hnm2⟩ := names_cut nm nmlen nmcap j (by have := (unhide HS).2.1; have := (unhide HM).1; omega)
                obtain ⟨sW, s0, o0⟩ := unhide HW
                obtain ⟨t1, t2, t3, t4, hT⟩ := unhide HT
                have hml := msT_len S f T j
                have hjn := (unhide HM).1
                have hme : ∀ q ∈ msT S f T j, q.name.length ≤ 10000 ∧ ToldD q.bits q.text := fun q h => by
                  obtain ⟨i, hi, rfl⟩ := msT_mem h
                  exact ⟨by have := (unhide HM).2.2.2.2.2 i hi; show (S i).length ≤ 10000; omega, hT i⟩
                have hzs : ∀ i, i < m → -9223372036854775808 < zs i ∧ zs i ≤ 9223372036854775807 := fun i hi => by
                  have h1 := (unhide HN).2 i hi
                  have h2 := (unhide HI).2 i hi
                  omega
                obtain ⟨ZZ, hZZ⟩ : ∃ x, scoredL (msT S f T j) = x := ⟨_, rfl⟩
                obtain ⟨NN, hNN⟩ : ∃ x, numsL zs m = x := ⟨_, rfl⟩
                obtain ⟨SP, hSP⟩ : ∃ x, spreadL j T1 T2 T3 T4 = x := ⟨_, rfl⟩
                have CZ := hide (fun u (h : Still WS u) => rscored_ok (unhide HK1 u h) zp zc (msT S f T j) ((unhide HM).2.2.1.keep (s0.trans h)).mbs (by omega) (fun q hq => ⟨(hme q hq).1, by have := (hme q hq).2.small; omega, (hme q hq).2.text⟩))
                have CDZ := hide (fun u (h : Still WS u) => dscored_ok (w := u) nm2 xp nmcap xc (msT S f T j) (mbs2 (hnm2 u S nmlen ((unhide HS).1.still (sW.trans h)) hjn) (Nat.le_refl _) ((unhide HM).2.2.2.1.keep (s0.trans h)).fls) (by omega) hme)
                have CN := hide (fun u (h : Still WS u) => rnums_ok (unhide HK1 u h) n m ncap zs ((unhide HN).1.still (sW.trans h)) hm100 (unhide HN).2)
                have CDN := hide (fun u (h : Still WS u) => dnums_ok (w := u) n m ncap zs ((unhide HN).1.still (sW.trans h)) hm100 hzs)
                have CS := hide (fun u (h : Still WS u) => rspread_ok (unhide HK1 u h) j (by omega) b1 b2 b3 b4 T1 T2 T3 T4 t1 t2 t3 t4)
                have CDS := hide (fun u => dspread_ok (w := u) j (by omega) b1 b2 b3 b4 T1 T2 T3 T4 t1 t2 t3 t4)
                rw [hml, hZZ] at CZ CDZ
                rw [hNN] at CN CDN
                rw [hSP] at CS CDS
                have SS : ∀ u, Still WS u → u.cell? ⟨sb, 0, none⟩ = some (iv j) ∧ u.cell? ⟨sb, 1, none⟩ = some (.float .f64 b1) ∧ u.cell? ⟨sb, 2, none⟩ = some (.float .f64 b2) ∧ u.cell? ⟨sb, 3, none⟩ = some (.float .f64 b3) ∧ u.cell? ⟨sb, 4, none⟩ = some (.float .f64 b4) := fun u h => by
                  have o := h.obj o0 (fun x => x)
                  exact ⟨cell_of_obj o 0, cell_of_obj o 1, cell_of_obj o 2, cell_of_obj o 3, cell_of_obj o 4⟩
                have qZ : ((bs ZZ).toList == (bs ZZ).toList) = true := by simp
                have qN : ((bs NN).toList == (bs NN).toList) = true := by simp
                have qS : ((bs SP).toList == (bs SP).toList) = true := by simp
                have HZS := hide hzs
                have HTT := hide hT
                clear sW s0 o0 t1 t2 t3 t4 hT hml hjn hme hzs hZZ hNN hSP hnm2
                go_wp2_with fail
                obtain ⟨y0, hWA⟩ : ∃ x, x5.drew = x := ⟨_, rfl⟩
                have A_y0 := hide (show Still WS y0 by rw [← hWA]; exact (unhide A_x5).drew)
                refine wp_region_held_drew (S := fun u => u.cell? ⟨sb, 0, none⟩ = some (iv j) ∧ u.cell? ⟨sb, 1, none⟩ = some (.float .f64 b1) ∧ u.cell? ⟨sb, 2, none⟩ = some (.float .f64 b2) ∧ u.cell? ⟨sb, 3, none⟩ = some (.float .f64 b3) ∧ u.cell? ⟨sb, 4, none⟩ = some (.float .f64 b4)) (by kernel_rfl) (by rw [hWA]; exact SS _ (unhide A_y0)) (fun hHeld => ?_)
                rw [hWA] at hHeld ⊢
                clear hWA
                refine take_l 0 (v := ?_) rfl (by kernel_rfl) (by kernel_rfl) (by kernel_rfl) (fun _ _ _ h => h) (Or.inl ⟨by rfl, ?_⟩) hHeld ?_
                rotate_left
                · (intro w hSw; (try dsimp only at hSw); go_simp; (try with_reducible rfl))
                simp only [Act.put, List.setIfInBounds_toArray, List.set_cons_zero, List.set_cons_succ]
                refine take_l 2 (v := ?_) rfl (by kernel_rfl) (by kernel_rfl) (by kernel_rfl) (fun _ _ _ h => h) (Or.inl ⟨by rfl, ?_⟩) hHeld ?_
                rotate_left
                · (intro w hSw; (try dsimp only at hSw); go_simp; (try with_reducible rfl))
                simp only [Act.put, List.setIfInBounds_toArray, List.set_cons_zero, List.set_cons_succ]
                refine take_l 3 (v := ?_) rfl (by kernel_rfl) (by kernel_rfl) (by kernel_rfl) (fun _ _ _ h => h) (Or.inl ⟨by rfl, ?_⟩) hHeld ?_
                rotate_left
                · (intro w hSw; (try dsimp only at hSw); go_simp; (try with_reducible rfl))
                simp only [Act.put, List.setIfInBounds_toArray, List.set_cons_zero, List.set_cons_succ]
                refine take_l 4 (v := ?_) rfl (by kernel_rfl) (by kernel_rfl) (by kernel_rfl) (fun _ _ _ h => h) (Or.inl ⟨by rfl, ?_⟩) hHeld ?_
                rotate_left
                · (intro w hSw; (try dsimp only at hSw); go_simp; (try with_reducible rfl))
                simp only [Act.put, List.setIfInBounds_toArray, List.set_cons_zero, List.set_cons_succ]
                refine take_l 5 (v := ?_) rfl (by kernel_rfl) (by kernel_rfl) (by kernel_rfl) (fun _ _ _ h => h) (Or.inl ⟨by rfl, ?_⟩) hHeld ?_
                rotate_left
                · (intro w hSw; (try dsimp only at hSw); go_simp; (try with_reducible rfl))
                simp only [Act.put, List.setIfInBounds_toArray, List.set_cons_zero, List.set_cons_succ]
                refine take_l 6 (v := ?_) rfl (by kernel_rfl) (by kernel_rfl) (by kernel_rfl) (fun _ _ _ h => h) (Or.inl ⟨by rfl, ?_⟩) hHeld ?_
                rotate_left
                · (intro w hSw; (try dsimp only at hSw); go_simp; (try with_reducible rfl))
                simp only [Act.put, List.setIfInBounds_toArray, List.set_cons_zero, List.set_cons_succ]
                refine wpAnyH_ready (rs := [1]) (by kernel_rfl) (by simp) ?_
                refine AllReadyH.cons rfl (fun K hK => ?_) AllReadyH.nil
                go_simp
                go_wp2_with fail
                refine (unhide CZ _ (unhide A_y0)).mono ?_
                rintro e y1 ⟨rfl, s'⟩
                have A_y1 := hide ((unhide A_y0).trans s')
                clear hHeld
                refine hK.out _ _ (SS _ (unhide A_y1)) (fun hHeld => ?_)
                clear hK K s'
                refine wpAnyH_ready (rs := [7]) (by kernel_rfl) (by simp) ?_
                refine AllReadyH.cons rfl (fun K hK => ?_) AllReadyH.nil
                go_simp
                go_wp2_with fail
                refine (unhide CDZ _ (unhide A_y1)).mono ?_
                rintro e y2 ⟨rfl, s'⟩
                have A_y2 := hide ((unhide A_y1).trans s')
                clear hHeld
                refine hK.out _ _ (SS _ (unhide A_y2)) (fun hHeld => ?_)
                clear hK K s'
                refine take_l 8 (v := ?_) rfl (by kernel_rfl) (by kernel_rfl) (by kernel_rfl) (fun _ _ _ h => h) (Or.inl ⟨by rfl, ?_⟩) hHeld ?_
                rotate_left
                · (intro w hSw; (try dsimp only at hSw); go_simp; (try with_reducible rfl))
                simp only [Act.put, List.setIfInBounds_toArray, List.set_cons_zero, List.set_cons_succ]
                refine take_l 9 (v := ?_) rfl (by kernel_rfl) (by kernel_rfl) (by kernel_rfl) (fun _ _ _ h => h) (Or.inl ⟨by rfl, ?_⟩) hHeld ?_
                rotate_left
                · (intro w hSw; (try dsimp only at hSw); go_simp; (try with_reducible rfl))
                simp only [Act.put, List.setIfInBounds_toArray, List.set_cons_zero, List.set_cons_succ]
                refine take_l 10 (v := ?_) rfl (by kernel_rfl) (by kernel_rfl) (by kernel_rfl) (fun _ _ _ h => h) (Or.inl ⟨by rfl, ?_⟩) hHeld ?_
                rotate_left
                · (intro w hSw; (try dsimp only at hSw); go_simp; (try with_reducible rfl))
                simp only [Act.put, List.setIfInBounds_toArray, List.set_cons_zero, List.set_cons_succ]
                refine take_l 12 (v := ?_) rfl (by kernel_rfl) (by kernel_rfl) (by kernel_rfl) (fun _ _ _ h => h) (Or.inl ⟨by rfl, ?_⟩) hHeld ?_
                rotate_left
                · (intro w hSw; (try dsimp only at hSw); go_simp; (try with_reducible rfl))
                simp only [Act.put, List.setIfInBounds_toArray, List.set_cons_zero, List.set_cons_succ]
                refine wpAnyH_ready (rs := [11]) (by kernel_rfl) (by simp) ?_
                refine AllReadyH.cons rfl (fun K hK => ?_) AllReadyH.nil
                go_simp
                go_wp2_with fail
                refine (unhide CN _ (unhide A_y2)).mono ?_
                rintro e y3 ⟨rfl, s'⟩
                have A_y3 := hide ((unhide A_y2).trans s')
                clear hHeld
                refine hK.out _ _ (SS _ (unhide A_y3)) (fun hHeld => ?_)
                clear hK K s'
                refine wpAnyH_ready (rs := [13]) (by kernel_rfl) (by simp) ?_
                refine AllReadyH.cons rfl (fun K hK => ?_) AllReadyH.nil
                go_simp
                go_wp2_with fail
                refine (unhide CDN _ (unhide A_y3)).mono ?_
                rintro e wx ⟨rfl, hx⟩
                replace hx := hx.symm
                subst hx
                clear hHeld
                refine hK.out _ _ (SS _ (unhide A_y3)) (fun hHeld => ?_)
                clear hK K
                refine take_l 14 (v := ?_) rfl (by kernel_rfl) (by kernel_rfl) (by kernel_rfl) (fun _ _ _ h => h) (Or.inl ⟨by rfl, ?_⟩) hHeld ?_
                rotate_left
                · (intro w hSw; (try dsimp only at hSw); go_simp; (try with_reducible rfl))
                simp only [Act.put, List.setIfInBounds_toArray, List.set_cons_zero, List.set_cons_succ]
                refine take_l 15 (v := ?_) rfl (by kernel_rfl) (by kernel_rfl) (by kernel_rfl) (fun _ _ _ h => h) (Or.inl ⟨by rfl, ?_⟩) hHeld ?_
                rotate_left
                · (intro w hSw; (try dsimp only at hSw); go_simp; (try with_reducible rfl))
                simp only [Act.put, List.setIfInBounds_toArray, List.set_cons_zero, List.set_cons_succ]
                refine take_l 16 (v := ?_) rfl (by kernel_rfl) (by kernel_rfl) (by kernel_rfl) (fun _ _ _ h => h) (Or.inl ⟨by rfl, ?_⟩) hHeld ?_
                rotate_left
                · (intro w hSw; (try dsimp only at hSw); go_simp; (try with_reducible rfl))
                simp only [Act.put, List.setIfInBounds_toArray, List.set_cons_zero, List.set_cons_succ]
                refine take_l 17 (v := ?_) rfl (by kernel_rfl) (by kernel_rfl) (by kernel_rfl) (fun _ _ _ h => h) (Or.inl ⟨by rfl, ?_⟩) hHeld ?_
                rotate_left
                · (intro w hSw; (try dsimp only at hSw); go_simp; (try with_reducible rfl))
                simp only [Act.put, List.setIfInBounds_toArray, List.set_cons_zero, List.set_cons_succ]
                refine take_l 19 (v := ?_) rfl (by kernel_rfl) (by kernel_rfl) (by kernel_rfl) (fun _ _ _ h => h) (Or.inl ⟨by rfl, ?_⟩) hHeld ?_
                rotate_left
                · (intro w hSw; (try dsimp only at hSw); go_simp; (try with_reducible rfl))
                simp only [Act.put, List.setIfInBounds_toArray, List.set_cons_zero, List.set_cons_succ]
                refine wpAnyH_ready (rs := [18]) (by kernel_rfl) (by simp) ?_
                refine AllReadyH.cons rfl (fun K hK => ?_) AllReadyH.nil
                go_simp
                go_wp2_with fail
                refine (unhide CS _ (unhide A_y3)).mono ?_
                rintro e y4 ⟨rfl, s'⟩
                have A_y4 := hide ((unhide A_y3).trans s')
                clear hHeld
                refine hK.out _ _ (SS _ (unhide A_y4)) (fun hHeld => ?_)
                clear hK K s'
                refine wpAnyH_ready (rs := [20]) (by kernel_rfl) (by simp) ?_
                refine AllReadyH.cons rfl (fun K hK => ?_) AllReadyH.nil
                go_simp
                go_wp2_with fail
                refine (unhide CDS _).mono ?_
                rintro e y5 ⟨rfl, s'⟩
                have A_y5 := hide ((unhide A_y4).trans s')
                clear hHeld
                refine hK.out _ _ (SS _ (unhide A_y5)) (fun hHeld => ?_)
                clear hK K s'
                refine take_l 21 (v := ?_) rfl (by kernel_rfl) (by kernel_rfl) (by kernel_rfl) (fun _ _ _ h => h) (Or.inl ⟨by rfl, ?_⟩) hHeld ?_
                rotate_left
                · (intro w hSw; (try dsimp only at hSw); go_simp; (try with_reducible rfl))
                simp only [Act.put, List.setIfInBounds_toArray, List.set_cons_zero, List.set_cons_succ]
                refine take_l 22 (v := ?_) rfl (by kernel_rfl) (by kernel_rfl) (by kernel_rfl) (fun _ _ _ h => h) (Or.inl ⟨by rfl, ?_⟩) hHeld ?_
                rotate_left
                · (intro w hSw; (try dsimp only at hSw); go_simp; (try with_reducible rfl))
                simp only [Act.put, List.setIfInBounds_toArray, List.set_cons_zero, List.set_cons_succ]
                refine wpAnyH_done (by kernel_rfl) ?_ _
                clear CZ CDZ CN CDN CS CDS qZ qN qS SS hHeld hsl
                go_wp2_with fail
                go_loopw [22] (fun i wr => ∃ q : Nat, i = iv q ∧ Hid (q ≤ m ∧ Still WS wr)) (fun i _ => m - (RowKit.intOf i).toNat)
                case atStart => exact ⟨0, rfl, hide ⟨Nat.zero_le _, unhide A_y5⟩⟩
                case round =>
                  obtain ⟨q, rfl, HL⟩ := hrel
                  by_cases hlt : q < m
                  · have hlt' : ((q : Int) < m) = True := by simp; omega
                    have hqm : (q : Int) < m := by omega
                    obtain ⟨xb, xo, rfl, x0⟩ := (unhide HN).1 q hlt
                    have SS : ∀ u, Still WS u → u.cell? ⟨xb, xo + q, none⟩ = some (iv (zs q)) := fun u h => ((unhide HW).1.trans h).cell' x0 fun y => y
                    have CR := hide (fun u (h : Still WS u) => rnum_ok (zs q) ((unhide HN).2 q hlt).1 ((unhide HN).2 q hlt).2 (unhide HK1 u h))
                    have CD := hide (fun u => dnum_ok (zs q) ((unhide HZS) q hlt).1 ((unhide HZS) q hlt).2 u)
                    obtain ⟨zz, hzz⟩ : ∃ z, zs q = z := ⟨_, rfl⟩
                    rw [hzz] at SS CR CD
                    obtain ⟨NB, hNB⟩ : ∃ x, numbL zz = x := ⟨_, rfl⟩
                    rw [hNB] at CR CD
                    have qn : ((bs NB).toList == (bs NB).toList) = true := by simp
                    have HX := hide hlt
                    clear hlt x0 hzz hNB
                    go_wp2_with fail
                    obtain ⟨v0, hWA⟩ : ∃ x, wr.drew = x := ⟨_, rfl⟩
                    have A_v0 := hide (show Still WS v0 by rw [← hWA]; exact (unhide HL).2.drew)
                    refine wp_region_held_drew (S := fun u => u.cell? ⟨xb, xo + q, none⟩ = some (iv zz)) (by kernel_rfl) (by rw [hWA]; exact SS _ (unhide A_v0)) (fun hHeld => ?_)
                    rw [hWA] at hHeld ⊢
                    clear hWA
                    refine take_l 0 (v := ?_) rfl (by kernel_rfl) (by kernel_rfl) (by kernel_rfl) (fun _ _ _ h => h) (Or.inl ⟨by rfl, ?_⟩) hHeld ?_
                    rotate_left
                    · (intro w hSw; (try dsimp only at hSw); go_simp; (try with_reducible rfl))
                    simp only [Act.put, List.setIfInBounds_toArray, List.set_cons_zero, List.set_cons_succ]
                    refine take_l 1 (v := ?_) rfl (by kernel_rfl) (by kernel_rfl) (by kernel_rfl) (fun _ _ _ h => h) (Or.inl ⟨by rfl, ?_⟩) hHeld ?_
                    rotate_left
                    · (intro w hSw; (try dsimp only at hSw); go_simp; (try with_reducible rfl))
                    simp only [Act.put, List.setIfInBounds_toArray, List.set_cons_zero, List.set_cons_succ]
                    refine take_l 2 (v := ?_) rfl (by kernel_rfl) (by kernel_rfl) (by kernel_rfl) (fun _ _ _ h => h) (Or.inl ⟨by rfl, ?_⟩) hHeld ?_
                    rotate_left
                    · (intro w hSw; (try dsimp only at hSw); go_simp; (try with_reducible rfl))
                    simp only [Act.put, List.setIfInBounds_toArray, List.set_cons_zero, List.set_cons_succ]
                    refine take_l 3 (v := ?_) rfl (by kernel_rfl) (by kernel_rfl) (by kernel_rfl) (fun _ _ _ h => h) (Or.inl ⟨by rfl, ?_⟩) hHeld ?_
                    rotate_left
                    · (intro w hSw; (try dsimp only at hSw); go_simp; (try with_reducible rfl))
                    simp only [Act.put, List.setIfInBounds_toArray, List.set_cons_zero, List.set_cons_succ]
                    refine take_l 5 (v := ?_) rfl (by kernel_rfl) (by kernel_rfl) (by kernel_rfl) (fun _ _ _ h => h) (Or.inl ⟨by rfl, ?_⟩) hHeld ?_
                    rotate_left
                    · (intro w hSw; (try dsimp only at hSw); go_simp; (try with_reducible rfl))
                    simp only [Act.put, List.setIfInBounds_toArray, List.set_cons_zero, List.set_cons_succ]
                    refine take_l 6 (v := ?_) rfl (by kernel_rfl) (by kernel_rfl) (by kernel_rfl) (fun _ _ _ h => h) (Or.inl ⟨by rfl, ?_⟩) hHeld ?_
                    rotate_left
                    · (intro w hSw; (try dsimp only at hSw); go_simp; (try with_reducible rfl))
                    simp only [Act.put, List.setIfInBounds_toArray, List.set_cons_zero, List.set_cons_succ]
                    refine take_l 7 (v := ?_) rfl (by kernel_rfl) (by kernel_rfl) (by kernel_rfl) (fun _ _ _ h => h) (Or.inl ⟨by rfl, ?_⟩) hHeld ?_
                    rotate_left
                    · (intro w hSw; (try dsimp only at hSw); go_simp; (try with_reducible rfl))
                    simp only [Act.put, List.setIfInBounds_toArray, List.set_cons_zero, List.set_cons_succ]
                    refine take_l 8 (v := ?_) rfl (by kernel_rfl) (by kernel_rfl) (by kernel_rfl) (fun _ _ _ h => h) (Or.inl ⟨by rfl, ?_⟩) hHeld ?_
                    rotate_left
                    · (intro w hSw; (try dsimp only at hSw); go_simp; (try with_reducible rfl))
                    simp only [Act.put, List.setIfInBounds_toArray, List.set_cons_zero, List.set_cons_succ]
                    refine wpAnyH_ready (rs := [4]) (by kernel_rfl) (by simp) ?_
                    refine AllReadyH.cons rfl (fun K hK => ?_) AllReadyH.nil
                    go_simp
                    go_wp2_with fail
                    refine (unhide CR _ (unhide A_v0)).mono ?_
                    rintro e v1 ⟨rfl, s'⟩
                    have A_v1 := hide ((unhide A_v0).trans s')
                    clear hHeld
                    refine hK.out _ _ (SS _ (unhide A_v1)) (fun hHeld => ?_)
                    clear hK K s'
                    refine wpAnyH_ready (rs := [9]) (by kernel_rfl) (by simp) ?_
                    refine AllReadyH.cons rfl (fun K hK => ?_) AllReadyH.nil
                    go_simp
                    go_wp2_with fail
                    refine (unhide CD _).mono ?_
                    rintro e wx ⟨rfl, hx⟩
                    replace hx := hx.symm
                    subst hx
                    clear hHeld
                    refine hK.out _ _ (SS _ (unhide A_v1)) (fun hHeld => ?_)
                    clear hK K
                    refine take_l 10 (v := ?_) rfl (by kernel_rfl) (by kernel_rfl) (by kernel_rfl) (fun _ _ _ h => h) (Or.inl ⟨by rfl, ?_⟩) hHeld ?_
                    rotate_left
                    · (intro w hSw; (try dsimp only at hSw); go_simp; (try with_reducible rfl))
                    simp only [Act.put, List.setIfInBounds_toArray, List.set_cons_zero, List.set_cons_succ]
                    refine wpAnyH_done (by kernel_rfl) ?_ _
                    clear CR CD SS hHeld
                    go_wp2
                    exact ⟨⟨q + 1, by go_num, hide ⟨by have := unhide HX; omega, unhide A_v1⟩⟩, by have := unhide HX; simp [RowKit.intOf]; omega⟩
                  · have hlt' : ((q : Int) < m) = False := by simp; omega
                    obtain rfl : q = m := by have := (unhide HL).1; omega
                    clear hlt
                    go_wp2_with fail
                    go_loopw [23] (fun i wr => ∃ t : Nat, i = iv t ∧ Hid (t ≤ j ∧ Still WS wr)) (fun i _ => j - (RowKit.intOf i).toNat)
                    case atStart => exact ⟨0, rfl, hide ⟨Nat.zero_le _, (unhide HL).2⟩⟩
                    case round =>
                      obtain ⟨t, rfl, HF⟩ := hrel
                      by_cases hlt : t < j
                      · have hlt' : ((t : Int) < j) = True := by simp; omega
                        have htj : (t : Int) < j := by omega
                        obtain ⟨xb, xo, rfl, x0⟩ := ((unhide HM).2.2.2.1.fls) t hlt
                        have SS : ∀ u, Still WS u → u.cell? ⟨xb, xo + t, none⟩ = some (.float .f64 (f t)) := fun u h => ((unhide HW).2.1.trans h).cell' x0 fun y => y
                        have hT := (unhide HTT) t
                        have CR := hide (fun u (h : Still WS u) => rscore_ok hT.text (by have := hT.small; omega) (unhide HK1 u h))
                        have CD := hide (fun u => dscore_ok hT u)
                        obtain ⟨ft, hft⟩ : ∃ z, f t = z := ⟨_, rfl⟩
                        rw [hft] at SS CR CD
                        obtain ⟨NB, hNB⟩ : ∃ x, scoreL (T t) = x := ⟨_, rfl⟩
                        rw [hNB] at CR CD
                        have qn : ((bs NB).toList == (bs NB).toList) = true := by simp
                        have HX := hide hlt
                        clear hlt x0 hft hNB hT
                        go_wp2_with fail
                        obtain ⟨v0, hWA⟩ : ∃ x, wr.drew = x := ⟨_, rfl⟩
                        have A_v0 := hide (show Still WS v0 by rw [← hWA]; exact (unhide HF).2.drew)
                        refine wp_region_held_drew (S := fun u => u.cell? ⟨xb, xo + t, none⟩ = some (.float .f64 ft)) (by kernel_rfl) (by rw [hWA]; exact SS _ (unhide A_v0)) (fun hHeld => ?_)
                        rw [hWA] at hHeld ⊢
                        clear hWA
                        refine take_l 0 (v := ?_) rfl (by kernel_rfl) (by kernel_rfl) (by kernel_rfl) (fun _ _ _ h => h) (Or.inl ⟨by rfl, ?_⟩) hHeld ?_
                        rotate_left
                        · (intro w hSw; (try dsimp only at hSw); go_simp; (try with_reducible rfl))
                        simp only [Act.put, List.setIfInBounds_toArray, List.set_cons_zero, List.set_cons_succ]
                        refine take_l 1 (v := ?_) rfl (by kernel_rfl) (by kernel_rfl) (by kernel_rfl) (fun _ _ _ h => h) (Or.inl ⟨by rfl, ?_⟩) hHeld ?_
                        rotate_left
                        · (intro w hSw; (try dsimp only at hSw); go_simp; (try with_reducible rfl))
                        simp only [Act.put, List.setIfInBounds_toArray, List.set_cons_zero, List.set_cons_succ]
                        refine take_l 2 (v := ?_) rfl (by kernel_rfl) (by kernel_rfl) (by kernel_rfl) (fun _ _ _ h => h) (Or.inl ⟨by rfl, ?_⟩) hHeld ?_
                        rotate_left
                        · (intro w hSw; (try dsimp only at hSw); go_simp; (try with_reducible rfl))
                        simp only [Act.put, List.setIfInBounds_toArray, List.set_cons_zero, List.set_cons_succ]
                        refine take_l 3 (v := ?_) rfl (by kernel_rfl) (by kernel_rfl) (by kernel_rfl) (fun _ _ _ h => h) (Or.inl ⟨by rfl, ?_⟩) hHeld ?_
                        rotate_left
                        · (intro w hSw; (try dsimp only at hSw); go_simp; (try with_reducible rfl))
                        simp only [Act.put, List.setIfInBounds_toArray, List.set_cons_zero, List.set_cons_succ]
                        refine take_l 5 (v := ?_) rfl (by kernel_rfl) (by kernel_rfl) (by kernel_rfl) (fun _ _ _ h => h) (Or.inl ⟨by rfl, ?_⟩) hHeld ?_
                        rotate_left
                        · (intro w hSw; (try dsimp only at hSw); go_simp; (try with_reducible rfl))
                        simp only [Act.put, List.setIfInBounds_toArray, List.set_cons_zero, List.set_cons_succ]
                        refine take_l 6 (v := ?_) rfl (by kernel_rfl) (by kernel_rfl) (by kernel_rfl) (fun _ _ _ h => h) (Or.inl ⟨by rfl, ?_⟩) hHeld ?_
                        rotate_left
                        · (intro w hSw; (try dsimp only at hSw); go_simp; (try with_reducible rfl))
                        simp only [Act.put, List.setIfInBounds_toArray, List.set_cons_zero, List.set_cons_succ]
                        refine take_l 7 (v := ?_) rfl (by kernel_rfl) (by kernel_rfl) (by kernel_rfl) (fun _ _ _ h => h) (Or.inl ⟨by rfl, ?_⟩) hHeld ?_
                        rotate_left
                        · (intro w hSw; (try dsimp only at hSw); go_simp; (try with_reducible rfl))
                        simp only [Act.put, List.setIfInBounds_toArray, List.set_cons_zero, List.set_cons_succ]
                        refine take_l 8 (v := ?_) rfl (by kernel_rfl) (by kernel_rfl) (by kernel_rfl) (fun _ _ _ h => h) (Or.inl ⟨by rfl, ?_⟩) hHeld ?_
                        rotate_left
                        · (intro w hSw; (try dsimp only at hSw); go_simp; (try with_reducible rfl))
                        simp only [Act.put, List.setIfInBounds_toArray, List.set_cons_zero, List.set_cons_succ]
                        refine wpAnyH_ready (rs := [4]) (by kernel_rfl) (by simp) ?_
                        refine AllReadyH.cons rfl (fun K hK => ?_) AllReadyH.nil
                        go_simp
                        go_wp2_with fail
                        refine (unhide CR _ (unhide A_v0)).mono ?_
                        rintro e v1 ⟨rfl, s'⟩
                        have A_v1 := hide ((unhide A_v0).trans s')
                        clear hHeld
                        refine hK.out _ _ (SS _ (unhide A_v1)) (fun hHeld => ?_)
                        clear hK K s'
                        refine wpAnyH_ready (rs := [9]) (by kernel_rfl) (by simp) ?_
                        refine AllReadyH.cons rfl (fun K hK => ?_) AllReadyH.nil
                        go_simp
                        go_wp2_with fail
                        refine (unhide CD _).mono ?_
                        rintro e wx ⟨rfl, hx⟩
                        replace hx := hx.symm
                        subst hx
                        clear hHeld
                        refine hK.out _ _ (SS _ (unhide A_v1)) (fun hHeld => ?_)
                        clear hK K
                        refine take_l 10 (v := ?_) rfl (by kernel_rfl) (by kernel_rfl) (by kernel_rfl) (fun _ _ _ h => h) (Or.inl ⟨by rfl, ?_⟩) hHeld ?_
                        rotate_left
                        · (intro w hSw; (try dsimp only at hSw); go_simp; (try with_reducible rfl))
                        simp only [Act.put, List.setIfInBounds_toArray, List.set_cons_zero, List.set_cons_succ]
                        refine wpAnyH_done (by kernel_rfl) ?_ _
                        clear CR CD SS hHeld
                        go_wp2
                        exact ⟨⟨t + 1, by go_num, hide ⟨by have := unhide HX; omega, unhide A_v1⟩⟩, by have := unhide HX; simp [RowKit.intOf]; omega⟩
                      · have hlt' : ((t : Int) < j) = False := by simp; omega
                        clear hlt
                        go_wp2_with fail
                        refine (unhide HA _ ((unhide HW).1.trans (unhide HF).2)).mono ?_
                        rintro e wa ⟨rfl, sa⟩
                        have SA := hide (((unhide HW).1.trans (unhide HF).2).trans sa)
                        clear sa HA
                        go_wp2
                        go_ret
                        exact ⟨rfl, (unhide SA).below (Nat.le_refl _) fun _ x => x.elim⟩
end Go.Proofs.YticflknfkaoejaaDoor
