/- CalcDots walked. -/
import Derived.Test.YtggjcfmoebghjaaWhD
import Derived.Test.YtggjcfmoebghjaaFloats
namespace Go.Proofs.Ytggjcfmoebghjaa
open Go.RowKit

/-- Both rows of the first loop. -/
structure Two (w : World) (z : Nat → Int) (k : Nat) (v u : Value) (wr : World) : Prop where
  x : Own wr w.heap.size v (mapl (fun i => (msk (z i) 65535 : Nat)) k)
  o : Own wr w.heap.size u (mapl (fun _ => (1 : Nat)) k)
  ap : Apart v u
  bel : Below w.heap.size w wr
theorem one_fl : fl ((1 : Nat) : Int) = 4607182418800017408 := by decide +kernel

theorem one_of {o : Option Nat} {x : Nat} (h : o = some x) : one o = x := by rw [h]; rfl
/-- What the law's calls tell, whatever is drawn. -/
structure Dots (w : World) (x y o : Value) (F G : Nat) : Prop where
  d1 : ∀ n, Calls Try.prog 14 #[x, y] (w.drewN n) fun e w' => e = .returned (.float .f64 F) ∧ ∃ n, w' = w.drewN n
  d2 : ∀ n, Calls Try.prog 14 #[y, x] (w.drewN n) fun e w' => e = .returned (.float .f64 F) ∧ ∃ n, w' = w.drewN n
  d3 : ∀ n, Calls Try.prog 14 #[x, o] (w.drewN n) fun e w' => e = .returned (.float .f64 G) ∧ ∃ n, w' = w.drewN n
  d4 : ∀ n, Calls Try.prog 9 #[x] (w.drewN n) fun e w' => e = .returned (.float .f64 G) ∧ ∃ n, w' = w.drewN n
  d5 : ∀ n, Calls Try.prog 14 #[x, .slice none 0 0] (w.drewN n) fun e w' => e = .returned (.float .f64 0) ∧ ∃ n, w' = w.drewN n
theorem one_le {n : Nat} (i : Nat) (_ : i < n) : (fun _ : Nat => 1) i ≤ 65535 := by show (1 : Nat) ≤ 65535; omega
theorem dots_of {w : World} {va vb vo : Option Addr} {ca cb co : Nat} (f g : Nat → Nat) (n m : Nat) (hn : n ≤ 40) (hm : m ≤ 40) (hf : ∀ i, f i ≤ 65535) (hg : ∀ i, g i ≤ 65535)
    (hX : Fls w va (mapl (fun i => f i) n)) (hY : Fls w vb (mapl (fun i => g i) m)) (hO : Fls w vo (mapl (fun _ => (1 : Nat)) n)) :
    Dots w (.slice va n ca) (.slice vb m cb) (.slice vo n co) (fl (sumI (fun i => (f i * g i : Nat)) (min n m))) (fl (sumI (fun i => f i) n)) := by
  have b1 : min n m * (65535 * 65535) < 1000000000000000 := Nat.lt_of_le_of_lt (Nat.mul_le_mul_right _ (show min n m ≤ 40 by omega)) (by decide)
  have b2 : min m n * (65535 * 65535) < 1000000000000000 := Nat.lt_of_le_of_lt (Nat.mul_le_mul_right _ (show min m n ≤ 40 by omega)) (by decide)
  have b3 : min n n * (65535 * 65535) < 1000000000000000 := Nat.lt_of_le_of_lt (Nat.mul_le_mul_right _ (show min n n ≤ 40 by omega)) (by decide)
  have e1 := one_of (dot_mapl f g 65535 n m (fun i _ => hf i) (fun i _ => hg i) b1 (by decide) (by decide))
  have e2 := one_of (dot_mapl g f 65535 m n (fun i _ => hg i) (fun i _ => hf i) b2 (by decide) (by decide))
  have e3 := one_of (dot_mapl f (fun _ => 1) 65535 n n (fun i _ => hf i) one_le b3 (by decide) (by decide))
  have e4 := one_of (sum_mapl (fun i => f i) 65535 n (fun i _ => by rw [Int.natAbs_natCast]; exact hf i) (by have : n * 65535 ≤ 40 * 65535 := Nat.mul_le_mul_right _ hn; exact Nat.lt_of_le_of_lt this (by decide)) (by decide))
  rw [sumI_congr _ (fun i => ((f i * g i : Nat) : Int)) _ (fun i _ => by rw [Nat.mul_comm]), Nat.min_comm] at e2
  rw [sumI_congr _ (fun i => (f i : Int)) _ (fun i _ => by rw [Nat.mul_one]), Nat.min_self] at e3
  have lx := mapl_len (fun i => (f i : Int)) n
  have ly := mapl_len (fun i => (g i : Int)) m
  have lo := mapl_len (fun _ => ((1 : Nat) : Int)) n
  refine ⟨fun k => ?_, fun k => ?_, fun k => ?_, fun k => ?_, fun k => ?_⟩
  · have h := dot_ok va vb ca cb _ _ (w.drewN k) hX hY (by rw [lx]; omega) (by rw [ly]; omega)
    rw [lx, ly, e1] at h
    exact h.mono fun _ _ ⟨a, m, b⟩ => ⟨a, k + m, b.trans (drewN_drewN w k m)⟩
  · have h := dot_ok vb va cb ca _ _ (w.drewN k) hY hX (by rw [ly]; omega) (by rw [lx]; omega)
    rw [lx, ly, e2] at h
    exact h.mono fun _ _ ⟨a, m, b⟩ => ⟨a, k + m, b.trans (drewN_drewN w k m)⟩
  · have h := dot_ok va vo ca co _ _ (w.drewN k) hX hO (by rw [lx]; omega) (by rw [lo]; omega)
    rw [lx, lo, e3] at h
    exact h.mono fun _ _ ⟨a, m, b⟩ => ⟨a, k + m, b.trans (drewN_drewN w k m)⟩
  · have h := sum_ok va ca _ (w.drewN k) hX (by rw [lx]; omega)
    rw [lx, e4] at h
    exact h.mono fun _ _ ⟨a, m, b⟩ => ⟨a, k + m, b.trans (drewN_drewN w k m)⟩
  · have h := dot_ok va none ca 0 _ [] (w.drewN k) hX (fun i hi => by simp at hi) (by rw [lx]; omega) (by simp)
    rw [lx, one_of (show dotO (mapl (fun i => (f i : Int)) n) [] = some 0 by unfold dotO; rw [List.zip_nil_right]; rfl)] at h
    exact h.mono fun _ _ ⟨a, m, b⟩ => ⟨a, k + m, b.trans (drewN_drewN w k m)⟩
theorem ord_fl (n : Int) (h : n.natAbs < 1000000000000000) : (FloatKind.f64.format.order (fl n) (fl n) == some Ordering.eq) = true := by
  obtain ⟨h1, h2⟩ := fl_lt n h
  rw [ord_self' _ h1, h2]; rfl

set_option maxRecDepth 100000 in
set_option maxHeartbeats 4000000 in
theorem dots_ok (a0 a1 : Option Addr) (len0 cap0 len1 cap1 : Nat) (z0 z1 : Nat → Int) (w : World) (hN0 : Nums .i64 w a0 len0 z0) (hN1 : Nums .i64 w a1 len1 z1) :
    Calls Try.prog 4 #[.slice a0 len0 cap0, .slice a1 len1 cap1] w fun e w' => e = .returned (.bool true) ∧ Below w.heap.size w w' := by
  have HN0 := hide hN0
  have HN1 := hide hN1
  clear hN0 hN1
  go_enter Try.func4, Try.ntmps4
  go_wp2
  go_loopw [5, 7, 9] (fun v u vi wr => ∃ k : Nat, k ≤ len0 ∧ k ≤ 40 ∧ vi = .int .i64 k ∧ Two w z0 k v u wr) (fun v u vi wr => 40 - (RowKit.intOf vi).toNat)
  case atStart => exact ⟨0, Nat.zero_le _, Nat.zero_le _, rfl, Own.nil _ _, Own.nil _ _, Apart.nil _, Below.refl _ _⟩
  case round =>
    obtain ⟨k, hk, hk40, rfl, hT⟩ := hrel
    by_cases hlt : k < len0 ∧ k < 40
    · obtain ⟨hlt, h40⟩ := hlt
      have hlt' : (k : Int) < len0 := by omega
      have h40' : (k : Int) < 40 := by omega
      obtain ⟨xb, xo, rfl, c⟩ := (unhide HN0).on hT.bel k hlt
      have hmk : bits .and .i64 (z0 k) 65535 = (msk (z0 k) 65535 : Int) := mask_i64 (z0 k) 65535 (by decide)
      have hml := msk_le (z0 k) 65535
      have hsz := hT.bel.size
      have HO := hide hT.x
      have HT := hide hT
      have hy := (fl_lt (msk (z0 k) 65535 : Nat) (by rw [Int.natAbs_natCast]; omega)).1
      have hcv : floatOfInt .f64 ((msk (z0 k) 65535 : Nat) : Int) = fl (msk (z0 k) 65535 : Nat) := rfl
      have HL := hide (show (mapl (fun i => (msk (z0 i) 65535 : Nat)) k).length ≤ 1000 by rw [mapl_len]; omega)
      have HS := hide (mapl_succ (fun i => (msk (z0 i) 65535 : Nat)) k)
      have HS2 := hide (mapl_succ (fun _ => ((1 : Nat) : Int)) k)
      have HL2 := hide (show (mapl (fun _ => ((1 : Nat) : Int)) k).length ≤ 1000 by rw [mapl_len]; omega)
      clear hT
      generalize fl (msk (z0 k) 65535 : Nat) = y at *
      generalize msk (z0 k) 65535 = q at *
      go_wp2_with (at_builtin; refine append_fl wr rfl (.tmp 21) (.tmp 28) rfl w.heap.size _ hy u5 _ rfl (unhide HO) rfl (unhide HL) hsz ?_)
      intro v' w2 hP
      have O2 := hide ((unhide HT).o.kept hP.gr (unhide HT).ap.symm.ne)
      have A2 := hide ((unhide HT).ap.push (unhide HT).o hP.at_)
      have hsz2 := Nat.le_trans hsz hP.gr.size
      have HP := hide hP
      clear hP
      have hy1 : 4607182418800017408 < 18446744073709551616 := by decide
      go_wp2_with (at_builtin; refine append_fl w2 rfl (.tmp 30) (.tmp 31) rfl w.heap.size _ hy1 u7 _ rfl (unhide O2) rfl (unhide HL2) hsz2 ?_)
      intro u' w3 hP2
      have T3 := hide (show Two w z0 (k + 1) v' u' w3 from ⟨by rw [unhide HS]; exact (unhide HP).own.kept hP2.gr (unhide A2).ne, by rw [unhide HS2, one_fl]; exact hP2.own, ((unhide A2).symm.push (unhide HP).own hP2.at_).symm, ((unhide HT).bel.trans (unhide HP).bel).trans hP2.bel⟩)
      clear hP2
      go_wp2
      go_roundw
      case rel => exact ⟨k + 1, by omega, by omega, by go_num, unhide T3⟩
      case measure => simp [RowKit.intOf]; omega
    · have HT := hide hT
      have HK := hide (show k = min len0 40 by omega)
      clear hT
      obtain ⟨va, ca, hva, hX, _⟩ := (unhide HT).x.fls
      obtain ⟨vo, co, hvo, hO, _⟩ := (unhide HT).o.fls
      rw [mapl_len] at hva hvo
      subst hva hvo
      have HX := hide hX; have HO := hide hO
      have HN1' := hide ((unhide HN1).on (unhide HT).bel)
      have HN0' := hide ((unhide HN0).on (unhide HT).bel)
      have HB := hide (unhide HT).bel
      clear hX hO HT HN0 HN1
      rcases (show (¬ k < len0) ∨ (k < len0 ∧ ¬ k < 40) by omega) with hw | ⟨hw, hw2⟩
      all_goals
        clear hlt
        first
          | have hw' : ¬ (k : Int) < len0 := by omega
          | have hw' : (k : Int) < len0 := by omega
            have hw2' : ¬ (k : Int) < 40 := by omega
        go_wp2_with fail
        generalize wr = w1 at *
        clear wr
        go_loopw [6, 8, 10] (fun v vn vi wx => ∃ (q : Nat) (n : Int), q ≤ len1 ∧ q ≤ 40 ∧ vi = .int .i64 q ∧ vn = .int .i64 n ∧ n = sumI (fun i => (msk (z0 i) 65535 * msk (z1 i) 65535 : Nat)) (min k q) ∧ Own wx w1.heap.size v (mapl (fun i => (msk (z1 i) 65535 : Nat)) q) ∧ Below w1.heap.size w1 wx) (fun v vn vi wx => 40 - (RowKit.intOf vi).toNat)
        case atStart => exact ⟨0, 0, Nat.zero_le _, Nat.zero_le _, rfl, rfl, by rw [Nat.min_zero]; rfl, Own.nil _ _, Below.refl _ _⟩
        case round =>
          obtain ⟨q, n, hq, hq40, rfl, rfl, hn, hO, hB⟩ := hrel
          have hnb := sumI_bound (fun i => ((msk (z0 i) 65535 * msk (z1 i) 65535 : Nat) : Int)) 4294836225 (min k q) (fun i _ => by rw [Int.natAbs_natCast]; exact Nat.mul_le_mul (msk_le _ _) (msk_le _ _))
          rw [← hn] at hnb
          have hnb2 : n.natAbs ≤ 171793449000 := Nat.le_trans hnb (Nat.le_trans (Nat.mul_le_mul_right _ (show min k q ≤ 40 by omega)) (by decide))
          have HNn := hide hn
          clear hnb hn
          by_cases hlt : q < len1 ∧ q < 40
          · obtain ⟨hlt, h40⟩ := hlt
            have hlt' : (q : Int) < len1 := by omega
            have h40' : (q : Int) < 40 := by omega
            obtain ⟨yb, yo, rfl, c⟩ := (unhide HN1').on hB q hlt
            have hmk : bits .and .i64 (z1 q) 65535 = (msk (z1 q) 65535 : Int) := mask_i64 (z1 q) 65535 (by decide)
            have hml := msk_le (z1 q) 65535
            have hsz := hB.size
            have HO := hide hO
            have HBx := hide hB
            have hy := (fl_lt (msk (z1 q) 65535 : Nat) (by rw [Int.natAbs_natCast]; omega)).1
            have hcv : floatOfInt .f64 ((msk (z1 q) 65535 : Nat) : Int) = fl (msk (z1 q) 65535 : Nat) := rfl
            have HL := hide (show (mapl (fun i => (msk (z1 i) 65535 : Nat)) q).length ≤ 1000 by rw [mapl_len]; omega)
            clear hO hB
            obtain ⟨r, hr⟩ : ∃ r, r = msk (z1 q) 65535 := ⟨_, rfl⟩
            have HS := hide (show mapl (fun i => (msk (z1 i) 65535 : Nat)) (q + 1) = mapl (fun i => (msk (z1 i) 65535 : Nat)) q ++ [fl (r : Nat)] by rw [hr]; exact mapl_succ _ q)
            rw [← hr] at hmk hml hy hcv
            have HR := hide hr
            clear hr
            generalize fl (r : Nat) = y at *
            go_wp2_with (at_builtin; refine append_fl wr rfl (.tmp 43) (.tmp 50) rfl w1.heap.size _ hy u6 _ rfl (unhide HO) rfl (unhide HL) hsz ?_)
            intro v' w2 hP
            have HP := hide hP
            have hB2 := (unhide HBx).trans hP.bel
            have HB2 := hide hB2
            obtain ⟨yb', yo', ey, cy⟩ := (unhide HN1').on hB2 q hlt
            injection ey with ey
            injection ey with ey1 ey2 _
            subst ey1 ey2
            clear hP c
            by_cases hqk : q < k
            · have hqk' : (q : Int) < k := by omega
              obtain ⟨xb, xo, rfl, cx⟩ := (unhide HN0').on hB2 q (by omega)
              have hmk0 : bits .and .i64 (z0 q) 65535 = (msk (z0 q) 65535 : Int) := mask_i64 (z0 q) 65535 (by decide)
              obtain ⟨t, ht⟩ : ∃ t : Nat, t = msk (z0 q) 65535 * r := ⟨_, rfl⟩
              have htb : t ≤ 4294836225 := by rw [ht]; exact Nat.mul_le_mul (msk_le _ _) hml
              have htI : (msk (z0 q) 65535 : Int) * (r : Int) = t := by rw [ht]; simp
              have HNN := hide (show n + t = sumI (fun i => (msk (z0 i) 65535 * msk (z1 i) 65535 : Nat)) (min k (q + 1)) by
                rw [unhide HNn, Nat.min_eq_right (show q ≤ k by omega), Nat.min_eq_right (show q + 1 ≤ k by omega), sumI, ht, unhide HR])
              clear ht HNn hB2
              generalize msk (z0 q) 65535 = p at *
              have hsum : -171793449000 ≤ n ∧ n ≤ 171793449000 := by omega
              obtain ⟨hs1, hs2⟩ := hsum
              have hw1 : IntKind.i64.wrap (t : Int) = t := by rw [IntKind.wrap_i64]; omega
              have hw3 : IntKind.i64.wrap (n + (t : Int)) = n + t := by rw [IntKind.wrap_i64]; omega
              go_wp2_with fail
              go_region
              go_wp2
              go_roundw
              case rel => exact ⟨q + 1, n + t, by omega, by omega, by go_num, rfl, unhide HNN, by rw [unhide HS]; exact (unhide HP).own.below ((Below.refl _ _).drew) (Nat.le_refl _), (unhide HB2).drew⟩
              case measure => simp [RowKit.intOf]; omega
            · have hqk' : ¬ (q : Int) < k := by omega
              have HNN := hide (show n = sumI (fun i => (msk (z0 i) 65535 * msk (z1 i) 65535 : Nat)) (min k (q + 1)) by
                rw [unhide HNn, Nat.min_eq_left (show k ≤ q by omega), Nat.min_eq_left (show k ≤ q + 1 by omega)])
              clear HNn hB2
              go_wp2
              go_roundw
              case rel => exact ⟨q + 1, n, by omega, by omega, by go_num, rfl, unhide HNN, by rw [unhide HS]; exact (unhide HP).own, unhide HB2⟩
              case measure => simp [RowKit.intOf]; omega
          · obtain ⟨vb, cb, hvb, hY, _⟩ := hO.fls
            rw [mapl_len] at hvb
            subst hvb
            have DD := dots_of (ca := ca) (cb := cb) (co := co) (fun i => msk (z0 i) 65535) (fun i => msk (z1 i) 65535) k q hk40 hq40 (fun i => msk_le _ _) (fun i => msk_le _ _) ((unhide HX).on hB) hY ((unhide HO).on hB)
            rw [← unhide HNn] at DD
            have oF := ord_fl n (by omega)
            have hG : (sumI (fun i => (msk (z0 i) 65535 : Nat)) k).natAbs < 1000000000000000 := by
              have := sumI_bound (fun i => ((msk (z0 i) 65535 : Nat) : Int)) 65535 k (fun i _ => by rw [Int.natAbs_natCast]; exact msk_le _ _)
              omega
            have oG := ord_fl _ hG
            have o0 : (FloatKind.f64.format.order 0 0 == some Ordering.eq) = true := by decide
            have hcv : floatOfInt .f64 n = fl n := rfl
            have HB2 := hide (below_step (unhide HB) hB)
            have T1 := hide (show Calls Try.prog 14 #[.slice va k ca, .slice vb q cb] wr _ from DD.d1 0); have T2 := hide DD.d2; have T3 := hide DD.d3; have T4 := hide DD.d4; have T5 := hide DD.d5
            have A := hide awake_ok
            clear DD hY hB hO hG HX HO HNn HN0' HN1'
            generalize fl (sumI (fun i => (msk (z0 i) 65535 : Nat)) k) = G at *
            generalize fl n = F at *
            rcases (show (¬ q < len1) ∨ (q < len1 ∧ ¬ q < 40) by omega) with hv | ⟨hv, hv2⟩
            all_goals
              clear hlt
              first
                | have hv' : ¬ (q : Int) < len1 := by omega
                | have hv' : (q : Int) < len1 := by omega
                  have hv2' : ¬ (q : Int) < 40 := by omega
              go_wp2_with fail
              refine (unhide T1).mono ?_
              rintro e w' ⟨rfl, n5, rfl⟩
              go_wp2_with fail
              refine (unhide T2 _).mono ?_
              rintro e w' ⟨rfl, n5, rfl⟩
              go_wp2_with fail
              refine (unhide T3 _).mono ?_
              rintro e w' ⟨rfl, n5, rfl⟩
              go_wp2_with fail
              refine (unhide T4 _).mono ?_
              rintro e w' ⟨rfl, n5, rfl⟩
              go_wp2_with fail
              refine (unhide T5 _).mono ?_
              rintro e w' ⟨rfl, n5, rfl⟩
              go_wp2_with fail
              refine (unhide A _).mono ?_
              rintro e w9 ⟨rfl, h9⟩
              have H9 := hide h9
              clear h9
              go_wp2
              go_ret
              exact ⟨rfl, below_step (below_step (unhide HB2) (below_drewN' wr _)) (unhide H9)⟩
end Go.Proofs.Ytggjcfmoebghjaa
