/- RedoApart: the walk. -/
import Derived.Test.YtockkjkaopihjaaApartT
import Derived.Test.YtockkjkaopihjaaIns
import Derived.Below
namespace Go.Proofs.Ytockkjkaopihjaa
open Go.RowKit

set_option maxRecDepth 100000 in
set_option maxHeartbeats 2000000 in
theorem apart_ok (a : Option Addr) (len cap : Nat) (fuse : Int) (flip : Bool) (ka : Option Addr) (klen kcap : Nat) (w : World) (zs : Nat → Bool) (ks : Nat → Int) (hz : Bools w a len zs) (hlen : len ≤ maxLen) (hk : Nums w ka klen ks) (hklen : klen ≤ maxLen)
    (hfu : fuse < 9223372036854775808) :
    Calls Try.prog 5 #[.slice a len cap, .int .i64 fuse, .bool flip, .slice ka klen kcap] w fun e w' => e = .returned (.bool true) ∧ Below w.heap.size w w' := by
  have HN := hide (new_256 w); have HZ := hide hz; have HK := hide hk; have HKL := hide hklen
  unfold maxLen at hlen
  clear hz hk hklen
  go_enter Try.func5, Try.ntmps5
  go_wp2_with fail
  refine (unhide HN).mono ?_
  clear HN
  rintro e w1 ⟨rfl, L, d1, f1, n1⟩
  have O1 := open_fresh d1 rfl 0 32 (by omega) (by omega) (by show 0 + 32 ≤ 32 * 8; omega) rfl
  have H1 := hide O1; have HF1 := hide f1; have HD1 := hide d1; have HN1 := hide n1
  clear O1 d1 f1 n1
  go_wp2_with fail
  refine (unhide H1).mono ?_
  clear H1
  rintro e w2 ⟨rfl, hh⟩
  have fr2 : Fr (fun _ => False) w1 w2 := hh ▸ (Fr.refl _ w1).alloc _
  have lg2 : LogAt w2 w1.heap.size (w.heap.size + 3) 0 32 := hh ▸ log_new _ _ _ _
  have z2 : w2.heap.size = w1.heap.size + 1 := by rw [hh]; simp
  have HF2 := hide fr2; have HL2 := hide lg2; have HZ2 := hide z2
  clear hh fr2 lg2 z2
  go_wp2_with fail
  obtain ⟨w3, hw3⟩ : ∃ w3, w2.alloc (.cells #[.pointer (some ⟨w1.heap.size, 0, none⟩)] 24) = w3 := ⟨_, rfl⟩
  have fr3 : Fr (fun _ => False) w1 w3 := hw3 ▸ (unhide HF2).alloc _
  have lg3 : LogAt w3 w1.heap.size (w.heap.size + 3) 0 32 := (unhide HL2).kept (hw3 ▸ (Fr.refl (fun _ => False) w2).alloc _) (fun h => h)
  have bx3 : w3.heap[w2.heap.size]? = some (.cells #[.pointer (some ⟨w1.heap.size, 0, none⟩)] 24 (0, 0)) := by rw [← hw3]; exact heap_alloc_new w2 _
  have z3 : w3.heap.size = w1.heap.size + 2 := by rw [← hw3]; simp [unhide HZ2]
  rw [hw3]
  have O3 := open_fresh ((unhide HD1).keptF fr3) rfl 64 32 (by omega) (by omega) (by show 64 + 32 ≤ 32 * 8; omega) rfl
  have H3 := hide O3; have HF3 := hide fr3; have HL3 := hide lg3; have HB3 := hide bx3; have HZ3 := hide z3
  clear O3 hw3 fr3 lg3 bx3 z3 HF2 HL2
  refine (unhide H3).mono ?_
  clear H3
  rintro e w4 ⟨rfl, hh⟩
  have fr4 : Fr (fun _ => False) w1 w4 := hh ▸ (unhide HF3).alloc _
  have la4 : LogAt w4 w1.heap.size (w.heap.size + 3) 0 32 := (unhide HL3).kept (hh ▸ (Fr.refl (fun _ => False) w3).alloc _) (fun h => h)
  have lb4 : LogAt w4 w3.heap.size (w.heap.size + 3) 64 32 := hh ▸ log_new _ _ _ _
  have bx4 : w4.cell? ⟨w2.heap.size, 0, none⟩ = some (.pointer (some ⟨w1.heap.size, 0, none⟩)) := (hh ▸ (Fr.refl (fun _ => False) w3).alloc _ : Fr (fun _ => False) w3 w4).cell' (by simp [World.cell?, unhide HB3]) (fun h => h)
  have bz4 : w4.frozen? ⟨w2.heap.size, 0, none⟩ = false := by
    have := (hh ▸ (Fr.refl (fun _ => False) w3).alloc _ : Fr (fun _ => False) w3 w4).block w2.heap.size (by have := unhide HZ2; have := unhide HZ3; omega) (fun h => h)
    rw [unhide HB3] at this
    simp [World.frozen?, this]
  have z4 : w4.heap.size = w1.heap.size + 3 := by rw [hh]; simp [unhide HZ3]
  have HF4 := hide fr4; have HLA := hide la4; have HLB := hide lb4; have HBX := hide (And.intro bx4 bz4); have HZ4 := hide z4
  have bo4 : ∀ o, (w4.alloc o).cell? ⟨w2.heap.size, 0, none⟩ = some (.pointer (some ⟨w1.heap.size, 0, none⟩)) := fun o => ((Fr.refl (fun _ => False) w4).alloc o).cell' bx4 (fun h => h)
  clear hh fr4 la4 lb4 bx4 bz4 z4 HF3 HL3 HB3
  go_wp2_with fail
  obtain ⟨w5, hw5⟩ : ∃ w5, w4.alloc (.cells #[.pointer (some ⟨w3.heap.size, 0, none⟩)] 24) = w5 := ⟨_, rfl⟩
  rw [hw5]
  have f45 : Fr (fun _ => False) w4 w5 := hw5 ▸ (Fr.refl _ w4).alloc _
  have z2 := unhide HZ2; have z3 := unhide HZ3; have z4 := unhide HZ4
  have ba5 : Box w5 w2.heap.size (.pointer (some ⟨w1.heap.size, 0, none⟩)) := Box.kept ⟨(unhide HBX).1, (unhide HBX).2, by omega⟩ f45 (fun h => h)
  have bb5 : Box w5 w4.heap.size (.pointer (some ⟨w3.heap.size, 0, none⟩)) := hw5 ▸ Box.new w4 _ _
  have d5 := (unhide HD1).keptF ((unhide HF4).trans f45)
  have F5 := d_fuse d5 (fresh_calm 32 True) fuse hfu
  have nf : ∀ k, w1.heap.size ≤ k → ¬ foot (w.heap.size + 3) L k := fun k hk h => by have := (unhide HD1).lt k h; omega
  have lb : w.heap.size + 3 < w1.heap.size := (unhide HD1).ltb
  have la5 : LogAt w5 w1.heap.size (w.heap.size + 3) 0 32 := (unhide HLA).kept f45 (fun h => h)
  have lb5 : LogAt w5 w3.heap.size (w.heap.size + 3) 64 32 := (unhide HLB).kept f45 (fun h => h)
  have fw5 : Fr (fun _ => False) w w5 := ((unhide HF1).trans (unhide HF4)).trans f45
  have HF5 := hide F5
  have laid : ∀ w6, Fr (fun r => r = w.heap.size + 3) w5 w6 → DevL w6 (w.heap.size + 3) L { Ab.fresh 32 with fuse := fuse } → Calm 32 False { Ab.fresh 32 with fuse := fuse } 0 (fun _ => 0) → Laid w (w.heap.size + 3) L w1.heap.size w3.heap.size w2.heap.size w4.heap.size w6 := fun w6 f6 d6 c6 =>
    ⟨⟨_, d6, c6⟩, la5.kept f6 (by omega), lb5.kept f6 (by omega), nf _ (by omega), nf _ (by omega), ba5.kept f6 (by omega), bb5.kept f6 (by omega), nf _ (by omega), nf _ (by omega), fw5.trans' f6 (fun k hk => .inr (by omega)), unhide HN1, by omega, by have := (unhide HF1).size; omega, by have := (unhide HF1).size; omega⟩
  have HLD := @hide _ laid
  clear F5 laid fw5 la5 lb5 lb nf d5 bb5 ba5 z2 z3 z4 f45 hw5 bo4 HF1 HD1 HN1 HZ2 HZ3 HZ4 HF4 HLA HLB HBX
  generalize w.heap.size + 3 = b at *
  generalize w1.heap.size = lga at *
  generalize w3.heap.size = lgb at *
  generalize w2.heap.size = ba at *
  generalize w4.heap.size = bb at *
  refine (unhide HF5).mono ?_
  clear HF5
  rintro e w6 ⟨rfl, f6, d6, c6⟩
  have ld := unhide HLD w6 f6 d6 c6
  have HLD := hide ld
  clear f6 d6 c6 ld
  go_wp2_with fail
  have st0 : ApJ w6 b L w6.heap.size (w6.heap.size + 1) 0 0 0 ((w6.alloc (.cells #[u64 0] 28)).alloc (.cells #[u64 0] 28)) := by
    obtain ⟨A, d, c⟩ := (unhide HLD).d
    have b1 := Box.new w6 (u64 0) 28
    have b2 := Box.new (w6.alloc (.cells #[u64 0] 28)) (u64 0) 28
    have o := ((On.start d).alloc (.cells #[u64 0] 28)).alloc (.cells #[u64 0] 28)
    exact ⟨⟨L, A, _, o, c, ⟨rfl, rfl, rfl, rfl, rfl, rfl⟩, fun h => by have := d.lt _ h; omega, fun h => by have := d.lt _ h; omega⟩, b1.alloc _, by simpa using b2, by omega, by omega⟩
  have ne : w6.heap.size ≠ w6.heap.size + 1 := by omega
  have sz : w6.heap.size ≤ w6.heap.size := Nat.le_refl _
  have HS0 := hide st0; have HNE := hide ne
  clear st0 ne
  go_loopw [15, 16, 19, 20] (fun xv yv iv _ wr => ∃ (k : Nat) (x y : Int), k ≤ len ∧ k ≤ 30 ∧ iv = .int .i64 k ∧ xv = .int .u64 x ∧ yv = .int .u64 y ∧ ApJ w6 b L w6.heap.size (w6.heap.size + 1) k x y wr) (fun _ _ iv _ wr => 30 - (intOf iv).toNat)
  case atStart =>
    exact ⟨0, 0, 0, by omega, by omega, rfl, rfl, rfl, unhide HS0⟩
  case round =>
    obtain ⟨k, x, y, hk1, hk2, rfl, rfl, rfl, hj⟩ := hrel
    clear HS0
    generalize hpb : w6.heap.size = pb at *
    generalize hqb : pb + 1 = qb at *
    by_cases hlt : k < len ∧ k < 30
    · obtain ⟨hl1, hl2⟩ := hlt
      obtain ⟨xb, xo, rfl, hc⟩ := unhide HZ k hl1
      have hxw : xb < w.heap.size := World.block_lt_of_cell? _ _ hc
      have ww : w.heap.size ≤ w6.heap.size := (unhide HLD).fr.size
      have hp := hj.p.c; have hpz := hj.p.z
      obtain ⟨L1, A1, f, o1, k1, du, npb, nqb⟩ := hj.dev
      have cz : wr.cell? ⟨xb, xo + k, none⟩ = some (.bool (zs k)) := o1.fr.cell' ((unhide HLD).fr.cell' hc (fun h => h)) (fun hf => by have : w.heap.size ≤ xb := (unhide HLD).new _ hf; omega)
      have c2 : ∀ u, (wr.setCell ⟨pb, 0, none⟩ u).cell? ⟨qb, 0, none⟩ = some (.int .u64 y) := fun u => (hj.q.other (a := ⟨pb, 0, none⟩) (by show qb ≠ pb; omega) u).c
      have c3 : ∀ u, (wr.setCell ⟨pb, 0, none⟩ u).frozen? ⟨qb, 0, none⟩ = false := fun u => (hj.q.other (a := ⟨pb, 0, none⟩) (by show qb ≠ pb; omega) u).z
      have c4 : ∀ u v, ((wr.setCell ⟨pb, 0, none⟩ u).setCell ⟨qb, 0, none⟩ v).cell? ⟨xb, xo + k, none⟩ = some (.bool (zs k)) := fun u v =>
        (((Fr.refl (fun r => r = pb ∨ r = qb) wr).setCell (p := ⟨pb, 0, none⟩) (.inl (.inl rfl)) u).setCell (p := ⟨qb, 0, none⟩) (.inl (.inr rfl)) v).cell' cz (by show ¬ (xb = pb ∨ xb = qb); omega)
      have HJ := hide hj
      have H1 := hide (And.intro o1 (And.intro k1 (And.intro du (And.intro npb nqb))))
      clear hj hc cz o1 k1 du npb nqb
      rcases Bool.eq_false_or_eq_true (zs k) with ht | ht
      all_goals rw [ht] at c4
      · obtain ⟨o1, k1, du, npb, nqb⟩ := unhide H1
        have j := unhide HJ
        have hx := j.hx; have hy := j.hy
        have hw : IntKind.u64.wrap (x + 1) = x + 1 := (wrap_small _ (by omega) (by omega)).2
        obtain ⟨W, hW⟩ : ∃ W, ((wr.setCell ⟨pb, 0, none⟩ (.int .u64 x)).setCell ⟨qb, 0, none⟩ (.int .u64 y)).setCell ⟨pb, 0, none⟩ (.int .u64 (x + 1)) = W := ⟨_, rfl⟩
        have xp : Box W pb (.int .u64 (x + 1)) := by
          rw [← hW]
          exact ((j.p.set _).other (a := ⟨qb, 0, none⟩) (by show pb ≠ qb; omega) _).set _
        have xq : Box W qb (.int .u64 (y)) := by
          rw [← hW]
          exact ((j.q.other (a := ⟨pb, 0, none⟩) (by show qb ≠ pb; omega) _).set _).other (a := ⟨pb, 0, none⟩) (by show qb ≠ pb; omega) _
        have oW : On w6 b L W L1 A1 := o1.turn (F := fun r => r = pb ∨ r = qb) (hW ▸ (((Fr.refl _ wr).setCell (p := ⟨pb, 0, none⟩) (.inl (.inl rfl)) _).setCell (p := ⟨qb, 0, none⟩) (.inl (.inr rfl)) _).setCell (p := ⟨pb, 0, none⟩) (.inl (.inl rfl)) _) (fun r hr => by rcases hr with rfl | rfl <;> assumption) (fun r hr => by omega)
        have T := tell_a (unhide HLD) oW k1 du npb nqb xp xq hl2 (by omega) (by omega)
        have HT := hide T; have HW := hide hW
        clear T hW xp xq oW o1 k1 du npb nqb j
        go_wp2_with fail
        rw [unhide HW]
        clear HW
        refine (unhide HT).mono ?_
        clear HT
        rintro e wT (⟨rfl, j⟩ | ⟨rfl, j⟩)
        · have hp := j.p.c; have hq := j.q.c
          have HJT := hide j
          clear j
          go_wp2
          go_quiet (fail)
          go_wp2
          exact ⟨⟨k + 1, x + 1, y, by omega, by omega, by go_num, rfl, rfl, (unhide HJT).drewN _⟩, by simp [intOf]; omega⟩
        · have HLJ := hide j
          clear j
          obtain ⟨L1, A1, o1, n1, s1, ei, npb, nqb⟩ := (unhide HLJ).dev
          have P := p_power o1.d n1 s1 (by omega) flip ka klen kcap ks (unhide HKL) (fun k hk => by
            obtain ⟨xb, xo, rfl, hc⟩ := unhide HK k hk
            have hxw : xb < w.heap.size := World.block_lt_of_cell? _ _ hc
            exact ⟨xb, xo, rfl, o1.fr.cell' ((unhide HLD).fr.cell' hc (fun h => h)) (fun hf => by have : w.heap.size ≤ xb := (unhide HLD).new _ hf; omega)⟩)
          have HP := hide P; have HO1 := hide (And.intro o1 (And.intro ei (And.intro npb nqb)))
          clear P o1 n1 s1 ei npb nqb
          go_wp2_with fail
          refine (unhide HP).mono ?_
          clear HP
          rintro e w7 ⟨rfl, D⟩
          obtain ⟨L7, A7, o7, h7, p7, c7⟩ := D.on
          obtain ⟨o1, ei, npb, nqb⟩ := unhide HO1
          have ld := unhide HLD
          have P := opens_a o7.d (c7 True) (by omega) (ei h7 p7)
          have o67 := o1.trans o7
          have x7 : Box w7 ba (ptr lga) := ld.xa.kept o67.fr ld.nxa
          have y7 : Box w7 bb (ptr lgb) := ld.xb.kept o67.fr ld.nxb
          have p7b : Box w7 pb (.int .u64 (x + 1)) := (unhide HLJ).p.kept o7.fr npb
          have q7b : Box w7 qb (.int .u64 (y)) := (unhide HLJ).q.kept o7.fr nqb
          have n7 : ¬ foot b L7 ba ∧ ¬ foot b L7 bb ∧ ¬ foot b L7 pb ∧ ¬ foot b L7 qb := ⟨o67.other ld.xa.lt ld.nxa, o67.other ld.xb.lt ld.nxb, o7.other (unhide HLJ).p.lt npb, o7.other (unhide HLJ).q.lt nqb⟩
          have ltb : ba < w6.heap.size ∧ bb < w6.heap.size := ⟨ld.xa.lt, ld.xb.lt⟩
          have nab := ld.ne
          have HP := hide P; have H67 := hide o67; have HX := hide (And.intro x7 (And.intro y7 (And.intro p7b (And.intro q7b n7))))
          clear P o7 p7 c7 o1 ei npb nqb o67 x7 y7 p7b q7b n7 HO1 D ld
          go_wp2_with fail
          refine (unhide HP).mono ?_
          clear HP
          rintro e w8 ⟨rfl, L8, A8, h8, o8, c8, e8⟩
          obtain ⟨x7, y7, p7b, q7b, na, nb, np, nq⟩ := unhide HX
          have ld := unhide HLD
          have x8 : Box w8 ba (ptr lga) := x7.kept o8.fr na
          obtain ⟨w9, hw9⟩ : ∃ w9, w8.setCell ⟨ba, 0, none⟩ (.pointer (some ⟨w7.heap.size, 0, none⟩)) = w9 := ⟨_, rfl⟩
          have f89 : Fr (fun r => r = ba) w8 w9 := hw9 ▸ (Fr.refl (fun r => r = ba) w8).setCell (.inl rfl) _
          have l7 : w6.heap.size ≤ w7.heap.size := (unhide H67).fr.size
          have na8 : ¬ foot b L8 ba := o8.other x7.lt na
          have d9 : DevL w9 b L8 A8 := o8.d.kept f89 (fun k hk e => na8 (e ▸ hk))
          have P := opens_b d9 c8 (by omega) e8
          have x9 : Box w9 ba (ptr w7.heap.size) := hw9 ▸ x8.set _
          have y9 : Box w9 bb (ptr lgb) := (y7.kept o8.fr nb).kept f89 (fun e => nab e.symm)
          have p9 : Box w9 pb (.int .u64 (x + 1)) := (p7b.kept o8.fr np).kept f89 (by omega)
          have q9 : Box w9 qb (.int .u64 (y)) := (q7b.kept o8.fr nq).kept f89 (by omega)
          have fr9 : Fr (fun _ => False) w w9 := (ld.fr.trans' ((unhide H67).trans o8).fr (fun k hk => .inr (ld.new k hk))).trans' f89 (fun k hk => .inr (by have := ld.wa; omega))
          have n9 : ¬ foot b L8 bb ∧ ¬ foot b L8 pb ∧ ¬ foot b L8 qb := ⟨o8.other y7.lt nb, o8.other p7b.lt np, o8.other q7b.lt nq⟩
          have lt8 : ∀ k, foot b L8 k → w.heap.size ≤ k := fun k hk => (((unhide H67).trans o8).sub k hk).elim (ld.new k) (fun h => Nat.le_trans ld.fr.size h)
          have HLT := hide lt8
          clear lt8
          have x8c := x8.c; have x8z := x8.z
          have wwb := ld.wb
          have HP := hide P; have HX9 := hide (And.intro x9 (And.intro y9 (And.intro p9 (And.intro q9 (And.intro na8 n9))))); have HW9 := hide hw9; have HF9 := hide fr9
          clear P o8 c8 e8 x7 y7 p7b q7b na nb np nq x8 ld hw9 f89 l7 na8 d9 x9 y9 p9 q9 fr9 n9 HX
          go_wp2_with fail
          rw [unhide HW9]
          clear HW9
          refine (unhide HP).mono ?_
          clear HP
          rintro e w10 ⟨rfl, L10, A10, h10, o10, c10, e10⟩
          clear x8c x8z
          obtain ⟨x9, y9, p9, q9, na, nb, np, nq⟩ := unhide HX9
          have y10 : Box w10 bb (ptr lgb) := y9.kept o10.fr nb
          obtain ⟨w11, hw11⟩ : ∃ w11, w10.setCell ⟨bb, 0, none⟩ (.pointer (some ⟨w9.heap.size, 0, none⟩)) = w11 := ⟨_, rfl⟩
          have f11 : Fr (fun r => r = bb) w10 w11 := hw11 ▸ (Fr.refl (fun r => r = bb) w10).setCell (.inl rfl) _
          have nb10 : ¬ foot b L10 bb := o10.other y9.lt nb
          have d11 : DevL w11 b L10 A10 := o10.d.kept f11 (fun k hk e => nb10 (e ▸ hk))
          have x11 : Box w11 ba (ptr w7.heap.size) := (x9.kept o10.fr na).kept f11 nab
          have y11 : Box w11 bb (ptr w9.heap.size) := hw11 ▸ y10.set _
          have p11 : Box w11 pb (.int .u64 (x + 1)) := (p9.kept o10.fr np).kept f11 (by omega)
          have q11 : Box w11 qb (.int .u64 (y)) := (q9.kept o10.fr nq).kept f11 (by omega)
          have fr11 : Fr (fun _ => False) w w11 := ((unhide HF9).trans' o10.fr (fun k hk => .inr (unhide HLT k hk))).trans' f11 (fun k hk => .inr (by omega))
          obtain ⟨U, V, u0, u1, v0, v1, hu, hv⟩ : ∃ U V, h10 130 = U ∧ h10 131 = U ∧ h10 140 = V ∧ h10 141 = V ∧ ((U == x) = true ∨ ((U == x) = false ∧ (U == x + 1) = true)) ∧ ((V == y) = true ∨ ((V == y) = false ∧ (V == y) = true)) := by
            rcases e10 with e | e
            · exact ⟨x, y, e.a0, e.a1, e.b0, e.b1, twoWays (.inl rfl), twoWays (.inl rfl)⟩
            · exact ⟨_, _, e.a0, e.a1, e.b0, e.b1, twoWays (.inr rfl), twoWays (.inr rfl)⟩
          have LA := d_load d11 c10 130 (by omega)
          have LB := d_load d11 c10 140 (by omega)
          have LC := d_load d11 c10 131 (by omega)
          have LD := d_load d11 c10 141 (by omega)
          rw [u0] at LA
          rw [u1] at LC
          rw [v0] at LB
          rw [v1] at LD
          have uu : (U == U) = true := by simp
          have vv : (V == V) = true := by simp
          have x11c := x11.c; have y11c := y11.c; have p11c := p11.c; have q11c := q11.c; have y10c := y10.c; have y10z := y10.z
          have x11d := x11.c; have y11d := y11.c
          rw [← hw11] at x11d y11d
          have H1A := hide LA; have H1B := hide LB; have H1C := hide LC; have H1D := hide LD; have HW11 := hide hw11; have HF11 := hide fr11; have HAW := hide (awake_ok w11)
          clear LA LB LC LD u0 u1 v0 v1 e10 hw11 fr11 f11 nb10 d11 x11 y11 p11 q11 y10 x9 y9 p9 q9 na nb np nq o10 c10 HX9 HF9 HLT
          go_wp2_with fail
          rw [unhide HW11]
          clear HW11 x11d y11d
          refine (unhide H1A).mono ?_
          clear H1A
          rintro e w12 ⟨rfl, rfl⟩
          go_wp2_with fail
          refine (unhide H1B).mono ?_
          clear H1B
          rintro e w12 ⟨rfl, rfl⟩
          rcases hu with hu | ⟨hu, hu2⟩ <;> rcases hv with hv | ⟨hv, hv2⟩
          all_goals (try exact absurd (hu.symm.trans hu2) (by simp))
          all_goals (try exact absurd (hv.symm.trans hv2) (by simp))
          all_goals
            go_wp2_with fail
            refine (unhide H1C).mono ?_
            clear H1C
            rintro e w13 ⟨rfl, rfl⟩
            go_wp2_with fail
            refine (unhide H1D).mono ?_
            clear H1D
            rintro e w13 ⟨rfl, rfl⟩
            go_wp2_with fail
            refine (unhide HAW).mono ?_
            clear HAW
            rintro e w14 ⟨rfl, f14⟩
            have HF14 := hide f14
            clear f14
            go_wp2
            go_ret
            exact ⟨rfl, ((unhide HF11).trans (unhide HF14)).below (Nat.le_refl _) (fun _ h => h.elim)⟩
      · obtain ⟨o1, k1, du, npb, nqb⟩ := unhide H1
        have j := unhide HJ
        have hx := j.hx; have hy := j.hy
        have hw : IntKind.u64.wrap (y + 1) = y + 1 := (wrap_small _ (by omega) (by omega)).2
        obtain ⟨W, hW⟩ : ∃ W, ((wr.setCell ⟨pb, 0, none⟩ (.int .u64 x)).setCell ⟨qb, 0, none⟩ (.int .u64 y)).setCell ⟨qb, 0, none⟩ (.int .u64 (y + 1)) = W := ⟨_, rfl⟩
        have xp : Box W pb (.int .u64 (x)) := by
          rw [← hW]
          exact ((j.p.set _).other (a := ⟨qb, 0, none⟩) (by show pb ≠ qb; omega) _).other (a := ⟨qb, 0, none⟩) (by show pb ≠ qb; omega) _
        have xq : Box W qb (.int .u64 (y + 1)) := by
          rw [← hW]
          exact ((j.q.other (a := ⟨pb, 0, none⟩) (by show qb ≠ pb; omega) _).set _).set _
        have oW : On w6 b L W L1 A1 := o1.turn (F := fun r => r = pb ∨ r = qb) (hW ▸ (((Fr.refl _ wr).setCell (p := ⟨pb, 0, none⟩) (.inl (.inl rfl)) _).setCell (p := ⟨qb, 0, none⟩) (.inl (.inr rfl)) _).setCell (p := ⟨qb, 0, none⟩) (.inl (.inr rfl)) _) (fun r hr => by rcases hr with rfl | rfl <;> assumption) (fun r hr => by omega)
        have T := tell_b (unhide HLD) oW k1 du npb nqb xp xq hl2 (by omega) (by omega)
        have HT := hide T; have HW := hide hW
        clear T hW xp xq oW o1 k1 du npb nqb j
        go_wp2_with fail
        rw [unhide HW]
        clear HW
        refine (unhide HT).mono ?_
        clear HT
        rintro e wT (⟨rfl, j⟩ | ⟨rfl, j⟩)
        · have hp := j.p.c; have hq := j.q.c
          have HJT := hide j
          clear j
          go_wp2
          go_quiet (fail)
          go_wp2
          exact ⟨⟨k + 1, x, y + 1, by omega, by omega, by go_num, rfl, rfl, (unhide HJT).drewN _⟩, by simp [intOf]; omega⟩
        · have HLJ := hide j
          clear j
          obtain ⟨L1, A1, o1, n1, s1, ei, npb, nqb⟩ := (unhide HLJ).dev
          have P := p_power o1.d n1 s1 (by omega) flip ka klen kcap ks (unhide HKL) (fun k hk => by
            obtain ⟨xb, xo, rfl, hc⟩ := unhide HK k hk
            have hxw : xb < w.heap.size := World.block_lt_of_cell? _ _ hc
            exact ⟨xb, xo, rfl, o1.fr.cell' ((unhide HLD).fr.cell' hc (fun h => h)) (fun hf => by have : w.heap.size ≤ xb := (unhide HLD).new _ hf; omega)⟩)
          have HP := hide P; have HO1 := hide (And.intro o1 (And.intro ei (And.intro npb nqb)))
          clear P o1 n1 s1 ei npb nqb
          go_wp2_with fail
          refine (unhide HP).mono ?_
          clear HP
          rintro e w7 ⟨rfl, D⟩
          obtain ⟨L7, A7, o7, h7, p7, c7⟩ := D.on
          obtain ⟨o1, ei, npb, nqb⟩ := unhide HO1
          have ld := unhide HLD
          have P := opens_a o7.d (c7 True) (by omega) (ei h7 p7)
          have o67 := o1.trans o7
          have x7 : Box w7 ba (ptr lga) := ld.xa.kept o67.fr ld.nxa
          have y7 : Box w7 bb (ptr lgb) := ld.xb.kept o67.fr ld.nxb
          have p7b : Box w7 pb (.int .u64 (x)) := (unhide HLJ).p.kept o7.fr npb
          have q7b : Box w7 qb (.int .u64 (y + 1)) := (unhide HLJ).q.kept o7.fr nqb
          have n7 : ¬ foot b L7 ba ∧ ¬ foot b L7 bb ∧ ¬ foot b L7 pb ∧ ¬ foot b L7 qb := ⟨o67.other ld.xa.lt ld.nxa, o67.other ld.xb.lt ld.nxb, o7.other (unhide HLJ).p.lt npb, o7.other (unhide HLJ).q.lt nqb⟩
          have ltb : ba < w6.heap.size ∧ bb < w6.heap.size := ⟨ld.xa.lt, ld.xb.lt⟩
          have nab := ld.ne
          have HP := hide P; have H67 := hide o67; have HX := hide (And.intro x7 (And.intro y7 (And.intro p7b (And.intro q7b n7))))
          clear P o7 p7 c7 o1 ei npb nqb o67 x7 y7 p7b q7b n7 HO1 D ld
          go_wp2_with fail
          refine (unhide HP).mono ?_
          clear HP
          rintro e w8 ⟨rfl, L8, A8, h8, o8, c8, e8⟩
          obtain ⟨x7, y7, p7b, q7b, na, nb, np, nq⟩ := unhide HX
          have ld := unhide HLD
          have x8 : Box w8 ba (ptr lga) := x7.kept o8.fr na
          obtain ⟨w9, hw9⟩ : ∃ w9, w8.setCell ⟨ba, 0, none⟩ (.pointer (some ⟨w7.heap.size, 0, none⟩)) = w9 := ⟨_, rfl⟩
          have f89 : Fr (fun r => r = ba) w8 w9 := hw9 ▸ (Fr.refl (fun r => r = ba) w8).setCell (.inl rfl) _
          have l7 : w6.heap.size ≤ w7.heap.size := (unhide H67).fr.size
          have na8 : ¬ foot b L8 ba := o8.other x7.lt na
          have d9 : DevL w9 b L8 A8 := o8.d.kept f89 (fun k hk e => na8 (e ▸ hk))
          have P := opens_b d9 c8 (by omega) e8
          have x9 : Box w9 ba (ptr w7.heap.size) := hw9 ▸ x8.set _
          have y9 : Box w9 bb (ptr lgb) := (y7.kept o8.fr nb).kept f89 (fun e => nab e.symm)
          have p9 : Box w9 pb (.int .u64 (x)) := (p7b.kept o8.fr np).kept f89 (by omega)
          have q9 : Box w9 qb (.int .u64 (y + 1)) := (q7b.kept o8.fr nq).kept f89 (by omega)
          have fr9 : Fr (fun _ => False) w w9 := (ld.fr.trans' ((unhide H67).trans o8).fr (fun k hk => .inr (ld.new k hk))).trans' f89 (fun k hk => .inr (by have := ld.wa; omega))
          have n9 : ¬ foot b L8 bb ∧ ¬ foot b L8 pb ∧ ¬ foot b L8 qb := ⟨o8.other y7.lt nb, o8.other p7b.lt np, o8.other q7b.lt nq⟩
          have lt8 : ∀ k, foot b L8 k → w.heap.size ≤ k := fun k hk => (((unhide H67).trans o8).sub k hk).elim (ld.new k) (fun h => Nat.le_trans ld.fr.size h)
          have HLT := hide lt8
          clear lt8
          have x8c := x8.c; have x8z := x8.z
          have wwb := ld.wb
          have HP := hide P; have HX9 := hide (And.intro x9 (And.intro y9 (And.intro p9 (And.intro q9 (And.intro na8 n9))))); have HW9 := hide hw9; have HF9 := hide fr9
          clear P o8 c8 e8 x7 y7 p7b q7b na nb np nq x8 ld hw9 f89 l7 na8 d9 x9 y9 p9 q9 fr9 n9 HX
          go_wp2_with fail
          rw [unhide HW9]
          clear HW9
          refine (unhide HP).mono ?_
          clear HP
          rintro e w10 ⟨rfl, L10, A10, h10, o10, c10, e10⟩
          clear x8c x8z
          obtain ⟨x9, y9, p9, q9, na, nb, np, nq⟩ := unhide HX9
          have y10 : Box w10 bb (ptr lgb) := y9.kept o10.fr nb
          obtain ⟨w11, hw11⟩ : ∃ w11, w10.setCell ⟨bb, 0, none⟩ (.pointer (some ⟨w9.heap.size, 0, none⟩)) = w11 := ⟨_, rfl⟩
          have f11 : Fr (fun r => r = bb) w10 w11 := hw11 ▸ (Fr.refl (fun r => r = bb) w10).setCell (.inl rfl) _
          have nb10 : ¬ foot b L10 bb := o10.other y9.lt nb
          have d11 : DevL w11 b L10 A10 := o10.d.kept f11 (fun k hk e => nb10 (e ▸ hk))
          have x11 : Box w11 ba (ptr w7.heap.size) := (x9.kept o10.fr na).kept f11 nab
          have y11 : Box w11 bb (ptr w9.heap.size) := hw11 ▸ y10.set _
          have p11 : Box w11 pb (.int .u64 (x)) := (p9.kept o10.fr np).kept f11 (by omega)
          have q11 : Box w11 qb (.int .u64 (y + 1)) := (q9.kept o10.fr nq).kept f11 (by omega)
          have fr11 : Fr (fun _ => False) w w11 := ((unhide HF9).trans' o10.fr (fun k hk => .inr (unhide HLT k hk))).trans' f11 (fun k hk => .inr (by omega))
          obtain ⟨U, V, u0, u1, v0, v1, hu, hv⟩ : ∃ U V, h10 130 = U ∧ h10 131 = U ∧ h10 140 = V ∧ h10 141 = V ∧ ((U == x) = true ∨ ((U == x) = false ∧ (U == x) = true)) ∧ ((V == y) = true ∨ ((V == y) = false ∧ (V == y + 1) = true)) := by
            rcases e10 with e | e
            · exact ⟨x, y, e.a0, e.a1, e.b0, e.b1, twoWays (.inl rfl), twoWays (.inl rfl)⟩
            · exact ⟨_, _, e.a0, e.a1, e.b0, e.b1, twoWays (.inr rfl), twoWays (.inr rfl)⟩
          have LA := d_load d11 c10 130 (by omega)
          have LB := d_load d11 c10 140 (by omega)
          have LC := d_load d11 c10 131 (by omega)
          have LD := d_load d11 c10 141 (by omega)
          rw [u0] at LA
          rw [u1] at LC
          rw [v0] at LB
          rw [v1] at LD
          have uu : (U == U) = true := by simp
          have vv : (V == V) = true := by simp
          have x11c := x11.c; have y11c := y11.c; have p11c := p11.c; have q11c := q11.c; have y10c := y10.c; have y10z := y10.z
          have x11d := x11.c; have y11d := y11.c
          rw [← hw11] at x11d y11d
          have H1A := hide LA; have H1B := hide LB; have H1C := hide LC; have H1D := hide LD; have HW11 := hide hw11; have HF11 := hide fr11; have HAW := hide (awake_ok w11)
          clear LA LB LC LD u0 u1 v0 v1 e10 hw11 fr11 f11 nb10 d11 x11 y11 p11 q11 y10 x9 y9 p9 q9 na nb np nq o10 c10 HX9 HF9 HLT
          go_wp2_with fail
          rw [unhide HW11]
          clear HW11 x11d y11d
          refine (unhide H1A).mono ?_
          clear H1A
          rintro e w12 ⟨rfl, rfl⟩
          go_wp2_with fail
          refine (unhide H1B).mono ?_
          clear H1B
          rintro e w12 ⟨rfl, rfl⟩
          rcases hu with hu | ⟨hu, hu2⟩ <;> rcases hv with hv | ⟨hv, hv2⟩
          all_goals (try exact absurd (hu.symm.trans hu2) (by simp))
          all_goals (try exact absurd (hv.symm.trans hv2) (by simp))
          all_goals
            go_wp2_with fail
            refine (unhide H1C).mono ?_
            clear H1C
            rintro e w13 ⟨rfl, rfl⟩
            go_wp2_with fail
            refine (unhide H1D).mono ?_
            clear H1D
            rintro e w13 ⟨rfl, rfl⟩
            go_wp2_with fail
            refine (unhide HAW).mono ?_
            clear HAW
            rintro e w14 ⟨rfl, f14⟩
            have HF14 := hide f14
            clear f14
            go_wp2
            go_ret
            exact ⟨rfl, ((unhide HF11).trans (unhide HF14)).below (Nat.le_refl _) (fun _ h => h.elim)⟩
    · have HLJ := hide (hj.lost (by omega))
      clear hj
      rcases (show len ≤ k ∨ (k < len ∧ 30 ≤ k) by omega) with h1 | ⟨h1, h2⟩
      all_goals
        obtain ⟨L1, A1, o1, n1, s1, ei, npb, nqb⟩ := (unhide HLJ).dev
        have P := p_power o1.d n1 s1 (by omega) flip ka klen kcap ks (unhide HKL) (fun k hk => by
          obtain ⟨xb, xo, rfl, hc⟩ := unhide HK k hk
          have hxw : xb < w.heap.size := World.block_lt_of_cell? _ _ hc
          exact ⟨xb, xo, rfl, o1.fr.cell' ((unhide HLD).fr.cell' hc (fun h => h)) (fun hf => by have : w.heap.size ≤ xb := (unhide HLD).new _ hf; omega)⟩)
        have HP := hide P; have HO1 := hide (And.intro o1 (And.intro ei (And.intro npb nqb)))
        clear P o1 n1 s1 ei npb nqb
        go_wp2_with fail
        refine (unhide HP).mono ?_
        clear HP
        rintro e w7 ⟨rfl, D⟩
        obtain ⟨L7, A7, o7, h7, p7, c7⟩ := D.on
        obtain ⟨o1, ei, npb, nqb⟩ := unhide HO1
        have ld := unhide HLD
        have P := opens_a o7.d (c7 True) (by omega) (ei h7 p7)
        have o67 := o1.trans o7
        have x7 : Box w7 ba (ptr lga) := ld.xa.kept o67.fr ld.nxa
        have y7 : Box w7 bb (ptr lgb) := ld.xb.kept o67.fr ld.nxb
        have p7b : Box w7 pb (.int .u64 (x)) := (unhide HLJ).p.kept o7.fr npb
        have q7b : Box w7 qb (.int .u64 (y)) := (unhide HLJ).q.kept o7.fr nqb
        have n7 : ¬ foot b L7 ba ∧ ¬ foot b L7 bb ∧ ¬ foot b L7 pb ∧ ¬ foot b L7 qb := ⟨o67.other ld.xa.lt ld.nxa, o67.other ld.xb.lt ld.nxb, o7.other (unhide HLJ).p.lt npb, o7.other (unhide HLJ).q.lt nqb⟩
        have ltb : ba < w6.heap.size ∧ bb < w6.heap.size := ⟨ld.xa.lt, ld.xb.lt⟩
        have nab := ld.ne
        have HP := hide P; have H67 := hide o67; have HX := hide (And.intro x7 (And.intro y7 (And.intro p7b (And.intro q7b n7))))
        clear P o7 p7 c7 o1 ei npb nqb o67 x7 y7 p7b q7b n7 HO1 D ld
        go_wp2_with fail
        refine (unhide HP).mono ?_
        clear HP
        rintro e w8 ⟨rfl, L8, A8, h8, o8, c8, e8⟩
        obtain ⟨x7, y7, p7b, q7b, na, nb, np, nq⟩ := unhide HX
        have ld := unhide HLD
        have x8 : Box w8 ba (ptr lga) := x7.kept o8.fr na
        obtain ⟨w9, hw9⟩ : ∃ w9, w8.setCell ⟨ba, 0, none⟩ (.pointer (some ⟨w7.heap.size, 0, none⟩)) = w9 := ⟨_, rfl⟩
        have f89 : Fr (fun r => r = ba) w8 w9 := hw9 ▸ (Fr.refl (fun r => r = ba) w8).setCell (.inl rfl) _
        have l7 : w6.heap.size ≤ w7.heap.size := (unhide H67).fr.size
        have na8 : ¬ foot b L8 ba := o8.other x7.lt na
        have d9 : DevL w9 b L8 A8 := o8.d.kept f89 (fun k hk e => na8 (e ▸ hk))
        have P := opens_b d9 c8 (by omega) e8
        have x9 : Box w9 ba (ptr w7.heap.size) := hw9 ▸ x8.set _
        have y9 : Box w9 bb (ptr lgb) := (y7.kept o8.fr nb).kept f89 (fun e => nab e.symm)
        have p9 : Box w9 pb (.int .u64 (x)) := (p7b.kept o8.fr np).kept f89 (by omega)
        have q9 : Box w9 qb (.int .u64 (y)) := (q7b.kept o8.fr nq).kept f89 (by omega)
        have fr9 : Fr (fun _ => False) w w9 := (ld.fr.trans' ((unhide H67).trans o8).fr (fun k hk => .inr (ld.new k hk))).trans' f89 (fun k hk => .inr (by have := ld.wa; omega))
        have n9 : ¬ foot b L8 bb ∧ ¬ foot b L8 pb ∧ ¬ foot b L8 qb := ⟨o8.other y7.lt nb, o8.other p7b.lt np, o8.other q7b.lt nq⟩
        have lt8 : ∀ k, foot b L8 k → w.heap.size ≤ k := fun k hk => (((unhide H67).trans o8).sub k hk).elim (ld.new k) (fun h => Nat.le_trans ld.fr.size h)
        have HLT := hide lt8
        clear lt8
        have x8c := x8.c; have x8z := x8.z
        have wwb := ld.wb
        have HP := hide P; have HX9 := hide (And.intro x9 (And.intro y9 (And.intro p9 (And.intro q9 (And.intro na8 n9))))); have HW9 := hide hw9; have HF9 := hide fr9
        clear P o8 c8 e8 x7 y7 p7b q7b na nb np nq x8 ld hw9 f89 l7 na8 d9 x9 y9 p9 q9 fr9 n9 HX
        go_wp2_with fail
        rw [unhide HW9]
        clear HW9
        refine (unhide HP).mono ?_
        clear HP
        rintro e w10 ⟨rfl, L10, A10, h10, o10, c10, e10⟩
        clear x8c x8z
        obtain ⟨x9, y9, p9, q9, na, nb, np, nq⟩ := unhide HX9
        have y10 : Box w10 bb (ptr lgb) := y9.kept o10.fr nb
        obtain ⟨w11, hw11⟩ : ∃ w11, w10.setCell ⟨bb, 0, none⟩ (.pointer (some ⟨w9.heap.size, 0, none⟩)) = w11 := ⟨_, rfl⟩
        have f11 : Fr (fun r => r = bb) w10 w11 := hw11 ▸ (Fr.refl (fun r => r = bb) w10).setCell (.inl rfl) _
        have nb10 : ¬ foot b L10 bb := o10.other y9.lt nb
        have d11 : DevL w11 b L10 A10 := o10.d.kept f11 (fun k hk e => nb10 (e ▸ hk))
        have x11 : Box w11 ba (ptr w7.heap.size) := (x9.kept o10.fr na).kept f11 nab
        have y11 : Box w11 bb (ptr w9.heap.size) := hw11 ▸ y10.set _
        have p11 : Box w11 pb (.int .u64 (x)) := (p9.kept o10.fr np).kept f11 (by omega)
        have q11 : Box w11 qb (.int .u64 (y)) := (q9.kept o10.fr nq).kept f11 (by omega)
        have fr11 : Fr (fun _ => False) w w11 := ((unhide HF9).trans' o10.fr (fun k hk => .inr (unhide HLT k hk))).trans' f11 (fun k hk => .inr (by omega))
        obtain ⟨U, V, u0, u1, v0, v1, hu, hv⟩ : ∃ U V, h10 130 = U ∧ h10 131 = U ∧ h10 140 = V ∧ h10 141 = V ∧ ((U == x) = true ∨ ((U == x) = false ∧ (U == x) = true)) ∧ ((V == y) = true ∨ ((V == y) = false ∧ (V == y) = true)) := by
          rcases e10 with e | e
          · exact ⟨x, y, e.a0, e.a1, e.b0, e.b1, twoWays (.inl rfl), twoWays (.inl rfl)⟩
          · exact ⟨_, _, e.a0, e.a1, e.b0, e.b1, twoWays (.inr rfl), twoWays (.inr rfl)⟩
        have LA := d_load d11 c10 130 (by omega)
        have LB := d_load d11 c10 140 (by omega)
        have LC := d_load d11 c10 131 (by omega)
        have LD := d_load d11 c10 141 (by omega)
        rw [u0] at LA
        rw [u1] at LC
        rw [v0] at LB
        rw [v1] at LD
        have uu : (U == U) = true := by simp
        have vv : (V == V) = true := by simp
        have x11c := x11.c; have y11c := y11.c; have p11c := p11.c; have q11c := q11.c; have y10c := y10.c; have y10z := y10.z
        have x11d := x11.c; have y11d := y11.c
        rw [← hw11] at x11d y11d
        have H1A := hide LA; have H1B := hide LB; have H1C := hide LC; have H1D := hide LD; have HW11 := hide hw11; have HF11 := hide fr11; have HAW := hide (awake_ok w11)
        clear LA LB LC LD u0 u1 v0 v1 e10 hw11 fr11 f11 nb10 d11 x11 y11 p11 q11 y10 x9 y9 p9 q9 na nb np nq o10 c10 HX9 HF9 HLT
        go_wp2_with fail
        rw [unhide HW11]
        clear HW11 x11d y11d
        refine (unhide H1A).mono ?_
        clear H1A
        rintro e w12 ⟨rfl, rfl⟩
        go_wp2_with fail
        refine (unhide H1B).mono ?_
        clear H1B
        rintro e w12 ⟨rfl, rfl⟩
        rcases hu with hu | ⟨hu, hu2⟩ <;> rcases hv with hv | ⟨hv, hv2⟩
        all_goals (try exact absurd (hu.symm.trans hu2) (by simp))
        all_goals (try exact absurd (hv.symm.trans hv2) (by simp))
        all_goals
          go_wp2_with fail
          refine (unhide H1C).mono ?_
          clear H1C
          rintro e w13 ⟨rfl, rfl⟩
          go_wp2_with fail
          refine (unhide H1D).mono ?_
          clear H1D
          rintro e w13 ⟨rfl, rfl⟩
          go_wp2_with fail
          refine (unhide HAW).mono ?_
          clear HAW
          rintro e w14 ⟨rfl, f14⟩
          have HF14 := hide f14
          clear f14
          go_wp2
          go_ret
          exact ⟨rfl, ((unhide HF11).trans (unhide HF14)).below (Nat.le_refl _) (fun _ h => h.elim)⟩
end Go.Proofs.Ytockkjkaopihjaa
