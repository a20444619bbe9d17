/- NvmFuses: the walk of the law's function through its loop: after q rounds the device has made min q k steps and has lost its power exactly when q is over k. -/
import Derived.Test.YtmhlbhbakfcdeaaFusesS
import Derived.Test.YtmhlbhbakfcdeaaAwake
import Derived.BigQuiet
import Derived.Deep.RegionWith

namespace Go.Proofs.Ytmhlbhbakfcdeaa
open Go.RowKit

def left (v : Value) (wr : World) : Nat := match v with
  | .pointer (some a) => match wr.cell? a with
    | some (.int _ z) => 50 - z.toNat
    | _ => 0
  | _ => 0

theorem left_at {p : Nat} {wr : World} {k : IntKind} {z : Int} (h : wr.cell? ⟨p, 0, none⟩ = some (.int k z)) : left (ptr p) wr = 50 - z.toNat := by simp [left, h]

theorem left_alloc (wr : World) (k : IntKind) (z : Int) (t : TypeId) : left (ptr wr.heap.size) (wr.alloc (.cells #[.int k z] t)) = 50 - z.toNat :=
  left_at (by rw [World.cell?_alloc_new]; rfl)

set_option maxHeartbeats 4000000 in
theorem fuses_walk (a1 : Option Addr) (len1 cap1 : Nat) (z1 : Nat → Int) (k1 : Int) (w : World) (n1 : Nums w a1 len1 z1) (l1 : len1 ≤ maxLen) :
    Calls Try.prog 8 #[.slice a1 len1 cap1, .int .i64 k1] w fun e w' => e = .returned (.bool true) ∧ Fr (fun _ => False) w w' := by
  have hmf : ∀ (fn : Fn) (first cap : Array Value) (w : World), (Instr.makeFunc fn first cap).run Try.prog w = .ok (.func fn first cap) w := fun _ _ _ _ => rfl
  have K1 := new_two (w.alloc (.cells #[.slice a1 len1 cap1] 22))
  have hl1 := l1
  unfold maxLen at hl1
  have hm : bits .and .i64 k1 31 = (msk k1 31 : Int) := mask_i64 k1 31 (by omega)
  have hml := msk_le k1 31
  generalize msk k1 31 = k at hm hml
  have HN := hide n1
  clear n1 l1
  go_enter Try.func8, Try.ntmps8
  go_wp2_with fail
  refine K1.mono ?_
  rintro e w1 ⟨rfl, L, d1, f1, s1⟩
  simp only [World.size_alloc] at d1 s1
  have hs1 := f1.size
  simp only [World.size_alloc] at hs1
  have D1 := hide d1; have F1 := hide f1; have S1 := hide s1
  clear d1 f1 s1 K1
  go_wp2_with fail
  have b5 := (unhide D1).c5
  have K2 := fuse_any (w.heap.size + 1 + 3) (k : Int) (-1) (w1.alloc (.cells #[ptr (w.heap.size + 1 + 3)] 23)) (((Fr.refl (fun _ => False) w1).alloc _).cell' b5 (fun x => x)) (((unhide D1).keptF ((Fr.refl (fun _ => False) w1).alloc _)).zb 5)
  clear b5
  refine K2.mono ?_
  rintro e V ⟨rfl, hV⟩
  have dV : DevL V (w.heap.size + 1 + 3) L { Ab.fresh 2 with fuse := k } := by rw [hV]; exact ((unhide D1).keptF ((Fr.refl (fun _ => False) w1).alloc _)).setFuse k
  have hb1 : w.heap.size + 1 + 3 < w1.heap.size := (unhide D1).lt _ (.inl rfl)
  have fV0 : Fr (fun j => j = w.heap.size + 1 + 3) w1 V := by rw [hV]; exact ((Fr.refl (fun j => j = w.heap.size + 1 + 3) w1).alloc _).setCell (.inl rfl) _
  have fV : Fr (fun _ => False) w V := (((Fr.refl (fun _ => False) w).alloc _).trans (unhide F1)).trans' fV0 (fun j hj => .inr (by omega))
  have hVs : V.heap.size = w1.heap.size + 1 := by rw [hV]; simp
  have cBV : V.cell? ⟨w.heap.size, 0, none⟩ = some (.slice a1 len1 cap1) := by
    rw [fV0.cell (p := ⟨w.heap.size, 0, none⟩) (by show w.heap.size < _; omega) (by show ¬ w.heap.size = _; omega), (unhide F1).cell (p := ⟨w.heap.size, 0, none⟩) (by simp) (fun h => h), World.cell?_alloc_new]; rfl
  have cDV : V.cell? ⟨w1.heap.size, 0, none⟩ = some (ptr (w.heap.size + 1 + 3)) := by
    rw [hV, World.cell?_setCell_other _ _ _ _ (by simp), World.cell?_alloc_new]; rfl
  have R0 : Rd w (.slice a1 len1 cap1) (w.heap.size + 1 + 3) w1.heap.size (V.alloc (.cells #[.int .i64 0] 3)) V.heap.size 0 { Ab.fresh 2 with fuse := k } :=
    ⟨⟨L, dV.keptF ((Fr.refl (fun _ => False) V).alloc _), fun j hj => ⟨by have := unhide S1 j hj; omega, by have := (unhide D1).lt j hj; omega, by have := (unhide D1).lt j hj; omega⟩⟩, fV.alloc _, ((Fr.refl (fun _ => False) V).alloc _).cell' cBV (fun x => x), ((Fr.refl (fun _ => False) V).alloc _).cell' cDV (fun x => x), heap_alloc_new _ _, by omega, by omega⟩
  have B0 : Burn k 0 { Ab.fresh 2 with fuse := (k : Int) } := ⟨rfl, by simp [Ab.fresh], by simp, by simp [Ab.fresh]⟩
  have HR := hide (And.intro R0 B0)
  generalize hpd : w1.heap.size = pd at HR cDV ⊢
  generalize hbb : w.heap.size + 1 + 3 = b at HR cDV ⊢
  clear R0 B0 dV fV0 fV hVs cBV hV K2 D1 F1 S1
  go_wp2
  go_loopw [7] (fun v wr => ∃ (p q : Nat) (A : Ab), q ≤ 50 ∧ v = ptr p ∧ Rd w (.slice a1 len1 cap1) b pd wr p q A ∧ Burn k q A) (fun v wr => left v wr)
  case atStart => exact ⟨_, 0, _, by omega, rfl, (unhide HR).1, (unhide HR).2⟩
  case round =>
    obtain ⟨p, q, A, hq, rfl, R, B⟩ := hrel
    have cd := R.cd
    have cB := R.box
    have ci := R.ci
    have zi := R.zi
    have rw0 := R.ci
    by_cases hlt : q < len1 ∧ q < 50
    · obtain ⟨hq1, hq2⟩ := hlt
      obtain ⟨xb, xo, rfl, hx0⟩ := (unhide HN) q hq1
      have hx := R.fr.cell' hx0 (fun x => x)
      by_cases hqk : q < k
      · have K := round_ok R B hqk hml hx hq1
        have HK := hide K
        clear K R B hx0 HR hx
        go_wp2_with fail
        refine (unhide HK).mono ?_
        rintro e w2 ⟨rfl, A2, R2, B2⟩
        have c2d := R2.cd
        have c2i := R2.ci
        have K28 : ∀ n, Calls Try.prog 28 #[ptr b] (w2.drewN n) fun e w' => e = .returned (.bool false) ∧ w' = w2.drewN n := fun n => by
          have h := rd_dead (R2.drewN n)
          rw [B2.dead, decide_eq_false (by omega)] at h; exact h
        have K23 : ∀ n, Calls Try.prog 23 #[ptr b] (w2.drewN n) fun e w' => e = .returned (.int .i64 ((q + 1 : Nat) : Int)) ∧ w' = w2.drewN n := fun n => by
          have h := rd_steps (R2.drewN n)
          rw [B2.steps, show min (q + 1) k = q + 1 from by omega] at h; exact h
        have H28 := hide K28; have H23 := hide K23
        have HRB := hide (And.intro R2 B2)
        clear K28 K23 R2 B2 HK cd cB ci zi
        have hdq : decide ((q : Int) < (k : Int)) = true := by simp; omega
        have hdq2 : decide ((k : Int) ≤ (q : Int)) = false := by simp; omega
        have hwq : IntKind.i64.wrap ((q : Int) + 1) = (q : Int) + 1 := (wrap_small _ (by omega) (by omega)).1
        have hkq : (k ≤ q) = False := by simp; omega
        have hkq' : ((k : Int) ≤ (q : Int)) = False := by simp; omega
        have hkq2 : ((k : Int) < (q : Int) + 1) = False := by simp; omega
        go_wp2
        go_quiet (first | (go_at_call 28; exact Calls.quiet_of_same (unhide H28 _)) | (go_at_call 23; exact Calls.quiet_of_same (unhide H23 _)))
        obtain ⟨R2, B2⟩ := unhide HRB
        have c3d := (R2.drewN nq).cd
        have c3i := (R2.drewN nq).ci
        have K12 := reads_ok (R2.drewN nq).drew B2.n (by rw [B2.dead]; simp; omega)
        have H12 := hide K12
        have HD : Hid (∀ V, Rd w (.slice (some ⟨xb, xo, none⟩) len1 cap1) b pd V p q A2 → Calls Try.prog 28 #[ptr b] V fun e w' => e = .returned (.bool false) ∧ w' = V) := fun V h => by
          have h := rd_dead h
          rw [B2.dead, decide_eq_false (by omega)] at h; exact h
        have HB2 := hide B2
        clear R2 B2 K12 H28 H23 hdq hdq2 hkq hkq' hkq2
        generalize w2.drewN nq = w3 at c3d c3i H12 ⊢
        go_wp2
        go_region_with (first | (go_at_call 10; refine (unhide H12).mono ?_; rintro e w4 ⟨rfl, R4⟩; have c4d := R4.cd; have c4i := R4.ci; have H4 := hide R4; clear R4) | (go_at_call 28; refine (unhide HD _ (unhide H4)).mono ?_; rintro e w5 ⟨rfl, rfl⟩))
        all_goals
          clear H12 HD
          go_wp2
          refine ⟨⟨w5.heap.size, q + 1, A2, by omega, rfl, (unhide H4).next ((Fr.refl _ _).alloc _) (Nat.le_refl _) (by rw [show (((q + 1 : Nat)) : Int) = (q : Int) + 1 from by omega]; exact heap_alloc_new _ _), unhide HB2⟩, ?_⟩
          rw [left_at rw0, left_alloc]
          omega
      · have K := round_lost R B hqk hx hq1
        have HK := hide K
        clear K R B hx0 HR hx
        go_wp2_with fail
        refine (unhide HK).mono ?_
        rintro e w2 ⟨rfl, A2, R2, B2⟩
        have c2d := R2.cd
        have c2i := R2.ci
        have K28 : ∀ n, Calls Try.prog 28 #[ptr b] (w2.drewN n) fun e w' => e = .returned (.bool true) ∧ w' = w2.drewN n := fun n => by
          have h := rd_dead (R2.drewN n)
          rw [B2.dead, decide_eq_true (by omega)] at h; exact h
        have K23 : ∀ n, Calls Try.prog 23 #[ptr b] (w2.drewN n) fun e w' => e = .returned (.int .i64 (k : Int)) ∧ w' = w2.drewN n := fun n => by
          have h := rd_steps (R2.drewN n)
          rw [B2.steps, show min (q + 1) k = k from by omega] at h; exact h
        have H28 := hide K28; have H23 := hide K23
        have HRB := hide (And.intro R2 B2)
        clear K28 K23 R2 B2 HK cd cB ci zi
        have hdq : decide ((q : Int) < (k : Int)) = false := by simp; omega
        have hdq2 : decide ((k : Int) ≤ (q : Int)) = true := by simp; omega
        have hwq : IntKind.i64.wrap ((q : Int) + 1) = (q : Int) + 1 := (wrap_small _ (by omega) (by omega)).1
        have hkq : (k ≤ q) = True := by simp; omega
        have hkq' : ((k : Int) ≤ (q : Int)) = True := by simp; omega
        have hkq2 : ((k : Int) < (q : Int) + 1) = True := by simp; omega
        go_wp2
        go_quiet (first | (go_at_call 28; exact Calls.quiet_of_same (unhide H28 _)) | (go_at_call 23; exact Calls.quiet_of_same (unhide H23 _)))
        obtain ⟨R2, B2⟩ := unhide HRB
        have c3d := (R2.drewN nq).cd
        have c3i := (R2.drewN nq).ci
        have K12 := reads_lost (R2.drewN nq).drew B2.n (by rw [B2.dead]; simp; omega)
        have H12 := hide K12
        have HD : Hid (∀ V, Rd w (.slice (some ⟨xb, xo, none⟩) len1 cap1) b pd V p q A2 → Calls Try.prog 28 #[ptr b] V fun e w' => e = .returned (.bool true) ∧ w' = V) := fun V h => by
          have h := rd_dead h
          rw [B2.dead, decide_eq_true (by omega)] at h; exact h
        have HB2 := hide B2
        clear R2 B2 K12 H28 H23 hdq hdq2 hkq hkq' hkq2
        generalize w2.drewN nq = w3 at c3d c3i H12 ⊢
        go_wp2
        go_region_with (first | (go_at_call 10; refine (unhide H12).mono ?_; rintro e w4 ⟨rfl, R4⟩; have c4d := R4.cd; have c4i := R4.ci; have H4 := hide R4; clear R4) | (go_at_call 28; refine (unhide HD _ (unhide H4)).mono ?_; rintro e w5 ⟨rfl, rfl⟩))
        all_goals
          clear H12 HD
          go_wp2
          refine ⟨⟨w5.heap.size, q + 1, A2, by omega, rfl, (unhide H4).next ((Fr.refl _ _).alloc _) (Nat.le_refl _) (by rw [show (((q + 1 : Nat)) : Int) = (q : Int) + 1 from by omega]; exact heap_alloc_new _ _), unhide HB2⟩, ?_⟩
          rw [left_at rw0, left_alloc]
          omega
    · have hst : A.steps < 2147483648 := by rw [B.steps]; omega
      have HR1 := hide R
      clear B HR R
      rcases (show (¬ q < len1) ∨ (q < len1 ∧ ¬ q < 50) by omega) with hq1 | ⟨hq1, hq2⟩
      all_goals
        clear hlt
        go_wp2_with fail
        refine (rd_power (unhide HR1) (by omega)).mono ?_
        rintro e w2 ⟨rfl, R2⟩
        have c2d := R2.cd
        have K28 : Calls Try.prog 28 #[ptr b] w2 fun e w' => e = .returned (.bool false) ∧ w' = w2 := rd_dead R2
        have K10 := rd_fence R2 ⟨rfl, by simp [Ab.powered], by simp [Ab.powered], by show A.steps < _; omega⟩ (by show A.steps + 1 < _; omega)
        have H28 := hide K28; have H10 := hide K10
        clear K28 K10 R2 HR1 cd cB ci zi rw0
        go_wp2_with fail
        refine (unhide H28).mono ?_
        rintro e w2 ⟨rfl, rfl⟩
        go_wp2_with fail
        refine (unhide H10).mono ?_
        rintro e w3 ⟨rfl, f3⟩
        have F3 := hide f3
        have K4 := awake_ok w3
        clear H10 H28 f3 c2d
        go_wp2_with fail
        refine K4.mono ?_
        rintro e w4 ⟨rfl, f4⟩
        have F4 := hide f4
        clear f4 K4
        go_wp2
        go_ret
        exact ⟨rfl, (unhide F3).trans (unhide F4)⟩

end Go.Proofs.Ytmhlbhbakfcdeaa
