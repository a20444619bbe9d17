/- NvmWaits: the walk. -/
import Derived.Test.YtmhlbhbakfcdeaaWaitsC
import Derived.Test.YtmhlbhbakfcdeaaAwake
namespace Go.Proofs.Ytmhlbhbakfcdeaa
open Go.RowKit

theorem barr64_lit : #[Value.bool false, Value.bool false, Value.bool false, Value.bool false, Value.bool false, Value.bool false, Value.bool false, Value.bool false, Value.bool false, Value.bool false, Value.bool false, Value.bool false, Value.bool false, Value.bool false, Value.bool false, Value.bool false, Value.bool false, Value.bool false, Value.bool false, Value.bool false, Value.bool false, Value.bool false, Value.bool false, Value.bool false, Value.bool false, Value.bool false, Value.bool false, Value.bool false, Value.bool false, Value.bool false, Value.bool false, Value.bool false, Value.bool false, Value.bool false, Value.bool false, Value.bool false, Value.bool false, Value.bool false, Value.bool false, Value.bool false, Value.bool false, Value.bool false, Value.bool false, Value.bool false, Value.bool false, Value.bool false, Value.bool false, Value.bool false, Value.bool false, Value.bool false, Value.bool false, Value.bool false, Value.bool false, Value.bool false, Value.bool false, Value.bool false, Value.bool false, Value.bool false, Value.bool false, Value.bool false, Value.bool false, Value.bool false, Value.bool false, Value.bool false] = barr 64 fun _ => false := by kernel_rfl
theorem enters18 : Enters 18 := fun _ _ => by kernel_rfl

theorem waitL_app (now lasts : Nat → Int) (r : Nat) : ∀ k, ∃ t, waitL now lasts (r + k) = waitL now lasts r ++ t
  | 0 => ⟨[], by simp⟩
  | k + 1 => by
    obtain ⟨t, ht⟩ := waitL_app now lasts r k
    rw [← Nat.add_assoc]
    simp only [waitL]
    split
    · exact ⟨t, ht⟩
    · exact ⟨t ++ [r + k], by rw [ht, List.append_assoc]⟩

theorem waitL_here (now lasts : Nat → Int) (m r : Nat) (hr : r < m) (hne : now r ≠ lasts r) : (waitL now lasts r).length < (waitL now lasts m).length ∧ (waitL now lasts m).getD (waitL now lasts r).length 0 = r := by
  obtain ⟨t, ht⟩ := waitL_app now lasts (r + 1) (m - (r + 1))
  rw [show r + 1 + (m - (r + 1)) = m from by omega] at ht
  simp only [waitL, if_neg hne] at ht
  rw [ht]
  simp

/-- A line's truths cleared. -/
def clr (f : Nat → Bool) (s r : Nat) : Nat → Bool := fun x => if s ≤ x ∧ x < s + r then false else f x

theorem clr_tells {f : Nat → Bool} {A : Ab} (h : Tells f A) (hw : A.way = fun _ => none) (a : Nat) : Tells (clr f (a * 8) 8) (A.evicted a) := by
  intro j hj
  have e : A.evicted a = A.driven a := by simp [Ab.evicted, hw]
  rw [e]
  have hn : (A.driven a).now j = A.now j := rfl
  by_cases e : j / 8 = a
  · have hl : (A.driven a).lasts j = A.now j := if_pos e
    have hc : clr f (a * 8) 8 j = false := if_pos (by omega)
    rw [hn, hl, hc]; simp
  · have hl : (A.driven a).lasts j = A.lasts j := if_neg e
    have hc : clr f (a * 8) 8 j = f j := if_neg (by omega)
    rw [hn, hl, hc]; exact h j hj

theorem at_evict_no {w0 w : World} {b : Nat} {F : Nat → Prop} {G : Nat → Option Obj} {A : Ab} (h : At w0 b F G w A) (i : Int) (hi : i < 0 ∨ A.n * 8 ≤ i) : Calls Try.prog 19 #[ptr b, .int .i64 i] w fun e w' => e = .returned (.int .i64 1) ∧ At w0 b F G w' A := by
  obtain ⟨L, d, hL⟩ := h.ex
  exact (evict_no d i hi).mono (by rintro e w' ⟨rfl, rfl⟩; exact ⟨rfl, h⟩)
theorem at_evict {w0 w : World} {b : Nat} {F : Nat → Prop} {G : Nat → Option Obj} {A : Ab} (h : At w0 b F G w A) (hst : A.steps < 4294967296) (j : Nat) (hj : j < A.n * 8) : Calls Try.prog 19 #[ptr b, .int .i64 j] w fun e w' => e = .returned (.int .i64 0) ∧ At w0 b F G w' (A.evicted (j / 8)) := by
  obtain ⟨L, d, hL⟩ := h.ex
  refine (evict_ok d hst j hj).mono ?_
  rintro e w' ⟨rfl, L', d', f', s'⟩
  exact ⟨rfl, h.step hL d' f' s'⟩
theorem at_waiting {w0 w : World} {b : Nat} {F : Nat → Prop} {G : Nat → Option Obj} {A : Ab} (h : At w0 b F G w A) (hn : A.n = 8) : Calls Try.prog 20 #[ptr b] w fun e w' => ∃ va cap, e = .returned (.slice va (waitL A.now A.lasts 64).length cap) ∧ At w0 b F G w' A ∧ ∀ p, p < (waitL A.now A.lasts 64).length → ∃ g, va = some ⟨g, 0, none⟩ ∧ w'.cell? ⟨g, p, none⟩ = some (.int .i64 ((waitL A.now A.lasts 64).getD p 0 : Nat)) := by
  obtain ⟨L, d, hL⟩ := h.ex
  refine (waiting_ok d).mono ?_
  rintro e w' ⟨v, rfl, ho, hf⟩
  rw [hn] at ho
  obtain ⟨va, cap, rfl, hc⟩ := owns_open ho
  exact ⟨va, cap, rfl, h.more hf, fun p hp => by obtain ⟨g, e, _, c⟩ := hc p hp; exact ⟨g, e, c⟩⟩

/-- What holds between the calls. -/
structure Mid (V : World) (b : Nat) (F : Nat → Prop) (pW : Nat) (f : Nat → Bool) (wr : World) (A : Ab) : Prop where
  at_ : At V b F (gW pW f) wr A
  n : A.n = 8
  few : A.steps ≤ 40
  way : A.way = fun _ => none
  tells : Tells f A

set_option maxHeartbeats 8000000 in
theorem waits_walk (a1 : Option Addr) (len1 cap1 : Nat) (z1 : Nat → Int) (a2 : Option Addr) (len2 cap2 : Nat) (z2 : Nat → Int) (w : World)
    (n1 : Nums w a1 len1 z1) (n2 : Nums w a2 len2 z2) (l1 : len1 ≤ maxLen) (l2 : len2 ≤ maxLen) :
    Calls Try.prog 4 #[.slice a1 len1 cap1, .slice a2 len2 cap2] w fun e w' => e = .returned (.bool true) ∧ Fr (fun _ => False) w w' := by
  have hmf : ∀ (fn : Fn) (first cap : Array Value) (w : World), (Instr.makeFunc fn first cap).run Try.prog w = .ok (.func fn first cap) w := fun _ _ _ _ => rfl
  have K1 := new_eight (w.alloc (.cells #[.slice a1 len1 cap1] 22))
  have hl2 := l2
  unfold maxLen at hl2
  have HN := hide (And.intro (And.intro n1 l1) n2)
  clear n1 n2 l1 l2
  go_enter Try.func4, Try.ntmps4
  go_wp2_with fail
  refine K1.mono ?_
  rintro e w1 ⟨rfl, L, d1, f1, s1⟩
  simp only [World.size_alloc] at d1 s1
  have hs1 := f1.size
  simp only [World.size_alloc] at hs1
  have D1 := hide d1; have F1 := hide f1; have S1 := hide s1
  clear d1 f1 s1 K1
  go_wp2_with fail
  simp only [barr64_lit]
  have d1 := unhide D1
  have f1 := unhide F1
  have s1 := unhide S1
  have nb : ∀ k, foot (w.heap.size + 1 + 3) L k → k < w1.heap.size := d1.lt
  have fV1 : Fr (fun _ => False) w1 ((w1.alloc (.cells #[ptr (w.heap.size + 1 + 3)] 23)).alloc (.cells (barr 64 fun _ => false) 36)) := ((Fr.refl _ w1).alloc _).alloc _
  have dV := d1.keptF fV1
  have v1 : ((w1.alloc (.cells #[ptr (w.heap.size + 1 + 3)] 23)).alloc (.cells (barr 64 fun _ => false) 36)).heap[w1.heap.size + 1]? = some (.cells (barr 64 fun _ => false) 36) := by
    have := heap_alloc_new (w1.alloc (.cells #[ptr (w.heap.size + 1 + 3)] 23)) (.cells (barr 64 fun _ => false) 36)
    rwa [World.size_alloc] at this
  have cDV : ((w1.alloc (.cells #[ptr (w.heap.size + 1 + 3)] 23)).alloc (.cells (barr 64 fun _ => false) 36)).cell? ⟨w1.heap.size, 0, none⟩ = some (ptr (w.heap.size + 1 + 3)) := by
    rw [World.cell?_alloc_lt _ _ _ (by simp), World.cell?_alloc_new]; rfl
  have f0 : Fr (fun _ => False) w w1 := ((Fr.refl _ w).alloc _).trans f1
  have fV := f0.trans fV1
  have cB1 : w1.cell? ⟨w.heap.size, 0, none⟩ = some (.slice a1 len1 cap1) := by
    rw [f1.cell (p := ⟨w.heap.size, 0, none⟩) (by simp) (fun h => h), World.cell?_alloc_new]; rfl
  have cBV := fV1.cell' cB1 (fun h => h)
  have hszV : ((w1.alloc (.cells #[ptr (w.heap.size + 1 + 3)] 23)).alloc (.cells (barr 64 fun _ => false) 36)).heap.size = w1.heap.size + 2 := by simp
  generalize hVV : (w1.alloc (.cells #[ptr (w.heap.size + 1 + 3)] 23)).alloc (.cells (barr 64 fun _ => false) 36) = V at fV1 dV v1 cDV fV cBV hszV
  have fb := boxed_fr V 0
  have K2 := tell_ok (word := 0) (first := #[]) (cap := #[ptr w.heap.size, ptr w1.heap.size, ptr (w1.heap.size + 1)]) enters18 dV
    (G := gW (w1.heap.size + 1) fun _ => false) (fun A' G' => Plain A' 8 40 ∧ A'.way = (fun _ => none) ∧ ∃ f, G' = gW (w1.heap.size + 1) f ∧ Tells f A')
    (fun k o e => by
      by_cases ek : k = w1.heap.size + 1
      · subst ek; rw [gW_at] at e; cases e; exact ⟨v1, fun h => by have := nb _ h; omega⟩
      · rw [gW_other _ _ ek] at e; cases e)
    (fun A' G' p k => by
      obtain ⟨_, _, f, rfl, _⟩ := p
      by_cases ek : k = w1.heap.size + 1
      · subst ek; rw [gW_at, gW_at]; rfl
      · rw [gW_other _ _ ek, gW_other _ _ ek])
    (fun a => (waits1 (pB := w.heap.size) (pd := w1.heap.size) a (fb.cell' cDV (fun h => h)) (fun h => by have := nb _ h; omega) (by omega)
      ((unhide HN).1.1.sees (unhide HN).1.2 (fV.trans fb) (fb.cell' cBV (fun h => h)) (fun h => by have := s1 _ h; omega) (gW_other _ _ (by omega)) (fun k hk h => by have := s1 _ h; omega) (fun k hk => gW_other _ _ (by omega)))).mono (by
      rintro e w' ⟨rfl, f, A', a', pl, hl, hway, ht⟩
      exact ⟨⟨_, rfl⟩, A', _, ⟨pl, hway, f, rfl, ht⟩, a'⟩))
  refine K2.mono ?_
  rintro e w2 ⟨rfl, A, G', ⟨pl, hway, f, rfl, ht⟩, aT⟩
  have M2 : Mid V (w.heap.size + 1 + 3) (foot (w.heap.size + 1 + 3) L) (w1.heap.size + 1) f w2 A := ⟨aT, pl.n, pl.few, hway, ht⟩
  have HM := hide M2
  have ndF : ¬ foot (w.heap.size + 1 + 3) L w1.heap.size := fun h => by have := nb _ h; omega
  have HFR : Hid (∀ f w3 A', At V (w.heap.size + 1 + 3) (foot (w.heap.size + 1 + 3) L) (gW (w1.heap.size + 1) f) w3 A' → Fr (fun _ => False) w w3) := fun f w3 A' a => fV.trans' a.fr (fun k hk => by
    rcases hk with h | h
    · exact .inr (by have := s1 k h; omega)
    · by_cases ek : k = w1.heap.size + 1
      · exact .inr (by omega)
      · rw [gW_other _ _ ek] at h; cases h)
  have HOUT : Hid (∀ f w3 A', At V (w.heap.size + 1 + 3) (foot (w.heap.size + 1 + 3) L) (gW (w1.heap.size + 1) f) w3 A' → ∀ q, q < len2 → ∃ xb xo, a2 = some ⟨xb, xo, none⟩ ∧ w3.cell? ⟨xb, xo + q, none⟩ = some (.int .i64 (z2 q))) := fun f w3 A' a q hq => by
    obtain ⟨xb, xo, e, c⟩ := (unhide HN).2 q hq
    have hlt : xb < w.heap.size := World.block_lt_of_cell? _ _ c
    exact ⟨xb, xo, e, a.cell (p := ⟨xb, xo + q, none⟩) (fV.cell' c (fun h => h)) (fun h => by have : w.heap.size + 1 ≤ xb := s1 _ h; omega) (gW_other _ _ (by show xb ≠ _; omega))⟩
  clear K2 aT pl hway ht M2 dV d1 f1 s1 nb v1 f0 fV fV1 cB1 cBV fb HN D1 F1 S1 hVV
  go_wp2
  go_loopw [9] (fun i wr => ∃ (q : Nat) (f : Nat → Bool) (A : Ab), q ≤ 20 ∧ i = .int .i64 q ∧ Mid V (w.heap.size + 1 + 3) (foot (w.heap.size + 1 + 3) L) (w1.heap.size + 1) f wr A) (fun i wr => 20 - (intOf i).toNat)
  case atStart => exact ⟨0, f, A, by omega, rfl, unhide HM⟩
  case round =>
    obtain ⟨q, f, A, hq, rfl, M⟩ := hrel
    have cd := M.at_.cell cDV ndF (gW_other _ _ (by show w1.heap.size ≠ _; omega))
    by_cases hlt : q < len2 ∧ q < 20
    · obtain ⟨hq1, hq2⟩ := hlt
      obtain ⟨xb, xo, rfl, hx⟩ := unhide HOUT _ _ _ M.at_ q hq1
      by_cases hz : 0 ≤ z2 q ∧ z2 q < 64
      · obtain ⟨hz0, hz1⟩ := hz
        obtain ⟨j, hj⟩ : ∃ j : Nat, z2 q = j := ⟨(z2 q).toNat, by omega⟩
        rw [hj] at hx hz0 hz1
        have hj64 : j < 64 := by omega
        have K : Calls Try.prog 19 #[ptr (w.heap.size + 1 + 3), .int .i64 (j : Nat)] wr.drew fun e w' => e = .returned (.int .i64 0) ∧ At V (w.heap.size + 1 + 3) (foot (w.heap.size + 1 + 3) L) (gW (w1.heap.size + 1) f) w' (A.evicted (j / 8)) := at_evict M.at_.drew (by have := M.few; omega) j (by rw [M.n]; omega)
        have HJ := hide hj
        have HK := hide K; have HMM := hide M
        clear M K hj
        go_wp2
        go_region_held3 (fun w' => w'.cell? ⟨w1.heap.size, 0, none⟩ = some (ptr (w.heap.size + 1 + 3)) ∧ w'.cell? ⟨xb, xo + q, none⟩ = some (.int .i64 (j : Nat))) (go_keep)
          (first | (go_at_call 19; refine (unhide HK).mono ?_; rintro e w3 ⟨rfl, a3⟩; have cd3 := a3.cell cDV ndF (gW_other _ _ (by show w1.heap.size ≠ _; omega)); have hx3 : w3.cell? ⟨xb, xo + q, none⟩ = some (.int .i64 (j : Nat)) := (by obtain ⟨xb', xo', e, c⟩ := unhide HOUT _ _ _ a3 q hq1; cases e; rw [unhide HJ] at c; exact c); have HA3 := hide a3; clear a3))
        have M := unhide HMM
        have M3 : Mid V (w.heap.size + 1 + 3) (foot (w.heap.size + 1 + 3) L) (w1.heap.size + 1) f w3 (A.evicted (j / 8)) ∨ True := .inr trivial
        have ET : Tells (clr f (j / 8 * 8) 8) (A.evicted (j / 8)) := clr_tells M.tells M.way (j / 8)
        have EN : (A.evicted (j / 8)).n = 8 ∧ (A.evicted (j / 8)).steps ≤ 40 ∧ (A.evicted (j / 8)).way = fun _ => none := by
          have e : A.evicted (j / 8) = A.driven (j / 8) := by simp [Ab.evicted, M.way]
          rw [e]; exact ⟨M.n, M.few, M.way⟩
        have HE := hide (And.intro ET EN)
        generalize A.evicted (j / 8) = A3 at HA3 HE
        clear M M3 ET EN HMM HK
        go_wp2
        go_loopw [11] (fun i wx => ∃ r : Nat, r ≤ 8 ∧ i = .int .i64 ((j / 8 * 8 + r : Nat) : Int) ∧ At V (w.heap.size + 1 + 3) (foot (w.heap.size + 1 + 3) L) (gW (w1.heap.size + 1) (clr f (j / 8 * 8) r)) wx A3) (fun i wx => 72 - (intOf i).toNat)
        case atStart => exact ⟨0, by omega, by simp, by
          have e : clr f (j / 8 * 8) 0 = f := by funext x; simp only [clr]; rw [if_neg (by omega)]
          rw [e]; exact unhide HA3⟩
        case round =>
          obtain ⟨r, hr, rfl, hy⟩ := hrel
          have hx4 : wr.cell? ⟨xb, xo + q, none⟩ = some (.int .i64 (j : Nat)) := (by obtain ⟨xb', xo', e, c⟩ := unhide HOUT _ _ _ hy q hq1; cases e; rw [unhide HJ] at c; exact c)
          by_cases hr8 : r < 8
          · have x1 : wr.cell? ⟨w1.heap.size + 1, j / 8 * 8 + r, none⟩ = some (.bool _) := (hy.gcell (gW_at _ _) _).trans (barr_get 64 _ _ (by omega))
            have z1' := hy.gfrozen (gW_at _ _) (j / 8 * 8 + r)
            generalize clr f (j / 8 * 8) r (j / 8 * 8 + r) = old at x1
            have HY := hide hy
            generalize hk : j / 8 * 8 + r = k at x1 z1'
            have HKK := hide hk
            have hk64 : k < 64 := by omega
            have hklt : (k : Int) < (j : Int) / 8 * 8 + 8 := by omega
            clear hy hk
            go_wp2
            go_roundw
            case rel =>
              have hk := unhide HKK
              refine ⟨r + 1, by omega, by rw [← Nat.add_assoc, hk]; go_num, ?_⟩
              have := (unhide HY).setW k false
              have e : upd (clr f (j / 8 * 8) r) k false = clr f (j / 8 * 8) (r + 1) := by
                funext x
                simp only [upd, clr]
                by_cases ej : x = k
                · subst ej; rw [if_pos rfl, if_pos (by omega)]
                · rw [if_neg ej]
                  by_cases hin : j / 8 * 8 ≤ x ∧ x < j / 8 * 8 + r
                  · rw [if_pos hin, if_pos (by omega)]
                  · rw [if_neg hin, if_neg (by omega)]
              rw [e] at this; exact this
            case measure => simp [intOf]; omega
          · have hr9 : r = 8 := by omega
            subst hr9
            have hend : ¬ (((j / 8 * 8 + 8 : Nat) : Int) < (j : Int) / 8 * 8 + 8) := by omega
            have HY := hide hy
            clear hy
            go_wp2
            go_roundw
            case rel =>
              obtain ⟨ET, en, es, ew⟩ := unhide HE
              exact ⟨q + 1, _, A3, by omega, by go_num, ⟨unhide HY, en, es, ew, ET⟩⟩
            case measure => simp [intOf]; omega
      · have hb : (z2 q < 0) ∨ (64 ≤ z2 q) := by omega
        have K : Calls Try.prog 19 #[ptr (w.heap.size + 1 + 3), .int .i64 (z2 q)] wr.drew fun e w' => e = .returned (.int .i64 1) ∧ At V (w.heap.size + 1 + 3) (foot (w.heap.size + 1 + 3) L) (gW (w1.heap.size + 1) f) w' A := at_evict_no M.at_.drew (z2 q) (by rw [M.n]; omega)
        have HK := hide K; have HMM := hide M
        clear M K
        by_cases hneg : z2 q < 0
        · go_wp2
          go_region_held3 (fun w' => w'.cell? ⟨w1.heap.size, 0, none⟩ = some (ptr (w.heap.size + 1 + 3)) ∧ w'.cell? ⟨xb, xo + q, none⟩ = some (.int .i64 (z2 q))) (go_keep)
            (first | (go_at_call 19; refine (unhide HK).mono ?_; rintro e w3 ⟨rfl, a3⟩; have cd3 := a3.cell cDV ndF (gW_other _ _ (by show w1.heap.size ≠ _; omega)); have hx3 : w3.cell? ⟨xb, xo + q, none⟩ = some (.int .i64 (z2 q)) := (by obtain ⟨xb', xo', e, c⟩ := unhide HOUT _ _ _ a3 q hq1; cases e; exact c); have HA3 := hide a3; clear a3))
          go_wp2
          go_roundw
          case rel =>
            have M := unhide HMM
            exact ⟨q + 1, f, A, by omega, by go_num, ⟨unhide HA3, M.n, M.few, M.way, M.tells⟩⟩
          case measure => simp [intOf]; omega
        · have hge : 64 ≤ z2 q := by omega
          have h0 : 0 ≤ z2 q := by omega
          go_wp2
          go_region_held3 (fun w' => w'.cell? ⟨w1.heap.size, 0, none⟩ = some (ptr (w.heap.size + 1 + 3)) ∧ w'.cell? ⟨xb, xo + q, none⟩ = some (.int .i64 (z2 q))) (go_keep)
            (first | (go_at_call 19; refine (unhide HK).mono ?_; rintro e w3 ⟨rfl, a3⟩; have cd3 := a3.cell cDV ndF (gW_other _ _ (by show w1.heap.size ≠ _; omega)); have hx3 : w3.cell? ⟨xb, xo + q, none⟩ = some (.int .i64 (z2 q)) := (by obtain ⟨xb', xo', e, c⟩ := unhide HOUT _ _ _ a3 q hq1; cases e; exact c); have HA3 := hide a3; clear a3))
          go_wp2
          go_roundw
          case rel =>
            have M := unhide HMM
            exact ⟨q + 1, f, A, by omega, by go_num, ⟨unhide HA3, M.n, M.few, M.way, M.tells⟩⟩
          case measure => simp [intOf]; omega
    · by_cases hq1 : q < len2
      · have hq2 : ¬ q < 20 := by omega
        clear hlt
        have K : Calls Try.prog 20 #[ptr (w.heap.size + 1 + 3)] wr fun e w' => ∃ va cap, e = .returned (.slice va (waitL A.now A.lasts 64).length cap) ∧ At V (w.heap.size + 1 + 3) (foot (w.heap.size + 1 + 3) L) (gW (w1.heap.size + 1) f) w' A ∧ ∀ p, p < (waitL A.now A.lasts 64).length → ∃ g, va = some ⟨g, 0, none⟩ ∧ w'.cell? ⟨g, p, none⟩ = some (.int .i64 ((waitL A.now A.lasts 64).getD p 0 : Nat)) := at_waiting M.at_ M.n
        have HT := hide M.tells
        have HK := hide K
        clear M K
        go_wp2_with fail
        refine (unhide HK).mono ?_
        rintro e w4 ⟨va, cap, rfl, a4, hc4⟩
        have H4 := hide (And.intro a4 hc4)
        have hwl := waitL_len A.now A.lasts 64
        generalize hm : (waitL A.now A.lasts 64).length = m at hwl
        have HMm := hide hm
        clear a4 hc4 HK cd hm
        go_wp2
        go_loop [13, 14] (fun n i => ∃ r : Nat, r ≤ 64 ∧ i = .int .i64 r ∧ n = .int .i64 ((waitL A.now A.lasts r).length : Nat)) (fun n i => 64 - (intOf i).toNat)
        case atStart => exact ⟨0, by omega, rfl, rfl⟩
        case round =>
          obtain ⟨r, hr, rfl, rfl⟩ := hrel
          by_cases hr64 : r < 64
          · obtain ⟨a4, hc4⟩ := unhide H4
            have x1 : w4.cell? ⟨w1.heap.size + 1, r, none⟩ = some (.bool (f r)) := (a4.gcell (gW_at _ _) _).trans (barr_get 64 f r hr64)
            have hwr := waitL_len A.now A.lasts r
            by_cases hne : A.now r = A.lasts r
            · have hfr : f r = false := by rw [unhide HT r hr64]; simp [hne]
              rw [hfr] at x1
              have HNE := hide hne
              clear hne a4 hc4 hfr
              generalize hn : (waitL A.now A.lasts r).length = nn at hwr
              have HNN := hide hn; clear hn
              go_wp2
              go_round
              case rel => exact ⟨r + 1, by omega, by go_num, by simp only [waitL, if_pos (unhide HNE)]; rw [unhide HNN]⟩
              case measure => simp [intOf]; omega
            · have hfr : f r = true := by rw [unhide HT r hr64]; simp [hne]
              rw [hfr] at x1
              obtain ⟨hl1, hl2'⟩ := waitL_here A.now A.lasts 64 r hr64 hne
              obtain ⟨g, hg, hcell⟩ := hc4 _ hl1
              rw [hl2'] at hcell
              subst hg
              have HNE := hide hne
              generalize hn : (waitL A.now A.lasts r).length = nn at hwr hl1 hcell
              have HNN := hide hn; clear hn
              rw [unhide HMm] at hl1
              clear hne a4 hc4 hfr hl2'
              go_wp2
              go_round
              case rel => exact ⟨r + 1, by omega, by go_num, by simp only [waitL, if_neg (unhide HNE), List.length_append, List.length_singleton]; rw [unhide HNN]; go_num⟩
              case measure => simp [intOf]; omega
          · have hr65 : r = 64 := by omega
            subst hr65
            have F2 := hide (unhide HFR _ _ _ (unhide H4).1)
            have K5 := awake_ok w4
            rw [unhide HMm]
            clear H4 HFR HOUT HT HMm
            go_wp2_with fail
            refine K5.mono ?_
            rintro e w5 ⟨rfl, f5⟩
            have F5 := hide f5
            clear f5 K5
            go_wp2
            go_ret
            exact ⟨rfl, (unhide F2).trans (unhide F5)⟩
      · clear hlt
        have K : Calls Try.prog 20 #[ptr (w.heap.size + 1 + 3)] wr fun e w' => ∃ va cap, e = .returned (.slice va (waitL A.now A.lasts 64).length cap) ∧ At V (w.heap.size + 1 + 3) (foot (w.heap.size + 1 + 3) L) (gW (w1.heap.size + 1) f) w' A ∧ ∀ p, p < (waitL A.now A.lasts 64).length → ∃ g, va = some ⟨g, 0, none⟩ ∧ w'.cell? ⟨g, p, none⟩ = some (.int .i64 ((waitL A.now A.lasts 64).getD p 0 : Nat)) := at_waiting M.at_ M.n
        have HT := hide M.tells
        have HK := hide K
        clear M K
        go_wp2_with fail
        refine (unhide HK).mono ?_
        rintro e w4 ⟨va, cap, rfl, a4, hc4⟩
        have H4 := hide (And.intro a4 hc4)
        have hwl := waitL_len A.now A.lasts 64
        generalize hm : (waitL A.now A.lasts 64).length = m at hwl
        have HMm := hide hm
        clear a4 hc4 HK cd hm
        go_wp2
        go_loop [13, 14] (fun n i => ∃ r : Nat, r ≤ 64 ∧ i = .int .i64 r ∧ n = .int .i64 ((waitL A.now A.lasts r).length : Nat)) (fun n i => 64 - (intOf i).toNat)
        case atStart => exact ⟨0, by omega, rfl, rfl⟩
        case round =>
          obtain ⟨r, hr, rfl, rfl⟩ := hrel
          by_cases hr64 : r < 64
          · obtain ⟨a4, hc4⟩ := unhide H4
            have x1 : w4.cell? ⟨w1.heap.size + 1, r, none⟩ = some (.bool (f r)) := (a4.gcell (gW_at _ _) _).trans (barr_get 64 f r hr64)
            have hwr := waitL_len A.now A.lasts r
            by_cases hne : A.now r = A.lasts r
            · have hfr : f r = false := by rw [unhide HT r hr64]; simp [hne]
              rw [hfr] at x1
              have HNE := hide hne
              clear hne a4 hc4 hfr
              generalize hn : (waitL A.now A.lasts r).length = nn at hwr
              have HNN := hide hn; clear hn
              go_wp2
              go_round
              case rel => exact ⟨r + 1, by omega, by go_num, by simp only [waitL, if_pos (unhide HNE)]; rw [unhide HNN]⟩
              case measure => simp [intOf]; omega
            · have hfr : f r = true := by rw [unhide HT r hr64]; simp [hne]
              rw [hfr] at x1
              obtain ⟨hl1, hl2'⟩ := waitL_here A.now A.lasts 64 r hr64 hne
              obtain ⟨g, hg, hcell⟩ := hc4 _ hl1
              rw [hl2'] at hcell
              subst hg
              have HNE := hide hne
              generalize hn : (waitL A.now A.lasts r).length = nn at hwr hl1 hcell
              have HNN := hide hn; clear hn
              rw [unhide HMm] at hl1
              clear hne a4 hc4 hfr hl2'
              go_wp2
              go_round
              case rel => exact ⟨r + 1, by omega, by go_num, by simp only [waitL, if_neg (unhide HNE), List.length_append, List.length_singleton]; rw [unhide HNN]; go_num⟩
              case measure => simp [intOf]; omega
          · have hr65 : r = 64 := by omega
            subst hr65
            have F2 := hide (unhide HFR _ _ _ (unhide H4).1)
            have K5 := awake_ok w4
            rw [unhide HMm]
            clear H4 HFR HOUT HT HMm
            go_wp2_with fail
            refine K5.mono ?_
            rintro e w5 ⟨rfl, f5⟩
            have F5 := hide f5
            clear f5 K5
            go_wp2
            go_ret
            exact ⟨rfl, (unhide F2).trans (unhide F5)⟩
end Go.Proofs.Ytmhlbhbakfcdeaa
