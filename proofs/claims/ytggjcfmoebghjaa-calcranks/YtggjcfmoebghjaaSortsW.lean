/- CalcSorts walked. -/
import Derived.Test.YtggjcfmoebghjaaSortQ
import Derived.Test.YtggjcfmoebghjaaFloats
import Derived.Test.YtggjcfmoebghjaaSame
import Derived.Test.YtggjcfmoebghjaaAwake
namespace Go.Proofs.Ytggjcfmoebghjaa
open Go.RowKit

theorem Fls.cell {w : World} {b o : Nat} {l : List Nat} (h : Fls w (some ⟨b, o, none⟩) l) (k : Nat) (hk : k < l.length) : w.cell? ⟨b, o + k, none⟩ = some (.float .f64 (l.getD k 0)) := by
  obtain ⟨xb, xo, e, c, _⟩ := h k hk
  cases e; exact c
theorem Fls.lt {w : World} {a : Option Addr} {l : List Nat} (h : Fls w a l) (k : Nat) (hk : k < l.length) : l.getD k 0 < 18446744073709551616 := by
  obtain ⟨_, _, _, _, c⟩ := h k hk
  exact c
/-- The three rows of the law. -/
structure Thr (w : World) (va vb vs : Option Addr) (L S : List Nat) (wr : World) : Prop where
  x : Fls wr va L
  o : Fls wr vb L
  s : Fls wr vs S
  bel : Below w.heap.size w wr
theorem Thr.drewN {w wr : World} {va vb vs : Option Addr} {L S : List Nat} (h : Thr w va vb vs L S wr) (n : Nat) : Thr w va vb vs L S (wr.drewN n) := ⟨h.x, h.o, h.s, below_step h.bel (below_drewN' wr n)⟩

theorem oft_le (l : List Nat) (c : Nat) : oft l c ≤ l.length := List.countP_le_length
theorem cmp3_ge (p q : Nat) : (cmp3 p q ≥ 0) = ¬ p < q := by
  unfold cmp3; split
  · simp_all
  · split <;> simp_all
theorem cmp3_same (p q : Nat) : (cmp3 p q == 0) = decide (p = q) := by
  unfold cmp3; split
  · rw [decide_eq_false (by omega)]; rfl
  · split
    · rw [decide_eq_false (by omega)]; rfl
    · rw [decide_eq_true (by omega)]; rfl

set_option maxRecDepth 100000 in
set_option maxHeartbeats 4000000 in
theorem sorts_ok (a0 : Option Addr) (len0 cap0 : Nat) (z0 : Nat → Int) (y : Nat) (hy : y < 18446744073709551616) (w : World) (hN0 : Nums .u64 w a0 len0 z0) (hz0 : ∀ i, i < len0 → (z0 i).toNat < 18446744073709551616) :
    Calls Try.prog 8 #[.slice a0 len0 cap0, .int .u64 y] w fun e w' => e = .returned (.bool true) ∧ Below w.heap.size w w' := by
  have F0 := hide (fun w' (h : Below w.heap.size w w') => floats_ok a0 len0 cap0 z0 w' (hN0.on h) hz0)
  have A := hide awake_ok
  clear hN0 hz0
  go_enter Try.func8, Try.ntmps8
  go_wp2_with fail
  refine (unhide F0 w (Below.refl _ _)).mono ?_
  rintro e w1 ⟨v0, rfl, hO0, hB0⟩
  have HO0 := hide hO0; have HB0 := hide hB0
  clear hO0 hB0
  go_wp2_with fail
  refine (unhide F0 w1 (unhide HB0)).mono ?_
  rintro e w2 ⟨v1, rfl, hO1, hB1⟩
  have hO0 := (unhide HO0).below hB1 (Nat.le_refl _)
  have l0 := flo_len z0 (min len0 60)
  generalize flo z0 (min len0 60) = L at *
  have HS := hide (sort_ok v0 w.heap.size L w2 (by omega) hO0)
  obtain ⟨va, ca, rfl, hf0, -⟩ := hO0.fls
  obtain ⟨vb, cb, rfl, hf1, -⟩ := hO1.fls
  have HF0 := hide hf0
  have HF1 := hide hf1
  have HB := hide (below_step (unhide HB0) hB1)
  have hL60 : L.length ≤ 60 := by omega
  clear HO0 HB0 hO1 hB1 hO0 hf0 hf1 l0 F0
  go_wp2_with fail
  refine (unhide HS).mono ?_
  rintro e w3 ⟨v2, S, rfl, ⟨⟨vs, cs, rfl, hfs⟩, hlen, hperm, hsrt, hbel⟩⟩
  have HT := hide (show Thr w va vb vs L S w3 from ⟨(unhide HF0).on hbel, (unhide HF1).on hbel, hfs, below_step (unhide HB) hbel⟩)
  have HP := hide hperm
  have HR := hide hsrt
  clear hfs hperm hsrt hbel HF0 HF1 HB HS
  go_wp2_with fail
  go_loopw [8, 9, 10] (fun vi _ _ wr => ∃ (i : Nat), vi = .int .i64 i ∧ Hid (i ≤ L.length) ∧ Hid (Thr w va vb vs L S wr)) (fun vi _ _ wr => L.length - (RowKit.intOf vi).toNat)
  case atStart => exact ⟨0, rfl, hide (Nat.zero_le _), HT⟩
  case round =>
    obtain ⟨i, rfl, HI, HT⟩ := hrel
    have hi := unhide HI
    by_cases hlt : i < L.length
    · have hlt' : (i : Int) < L.length := by omega
      obtain ⟨xb, xo, rfl, -, -⟩ := (unhide HT).x i hlt
      obtain ⟨ob, oo, rfl, -, -⟩ := (unhide HT).o i hlt
      obtain ⟨sb, so, rfl, -, -⟩ := (unhide HT).s i (by omega)
      have c1 := fun m => ((unhide HT).drewN m).x.cell i hlt
      have c2 := fun m => ((unhide HT).drewN m).o.cell i hlt
      have c3 := fun m => ((unhide HT).drewN m).s.cell i (by omega)
      have c10 := (unhide HT).x.cell i hlt
      have c20 := (unhide HT).o.cell i hlt
      have c30 := (unhide HT).s.cell i (by omega)
      have b1 := (unhide HT).x.lt i hlt
      have b3 := (unhide HT).s.lt i (by omega)
      have hbr := bits_run
      rcases (show 0 < i ∨ i = 0 by omega) with h0 | h0
      focus
        obtain ⟨p, hp⟩ : ∃ p, p + 1 = i := ⟨i - 1, by omega⟩
        have hpI : (i : Int) - 1 = (p : Int) := by omega
        have c4 := fun m => ((unhide HT).drewN m).s.cell p (by omega)
        have c40 := (unhide HT).s.cell p (by omega)
        have b4 := (unhide HT).s.lt p (by omega)
        have hpl : p < L.length := by omega
        have hcc : codeN (S.getD p 0) ≤ codeN (S.getD i 0) := unhide HR p i (Nat.zero_le _) (by omega) (by omega)
        have d2 : decide (cmp3 (codeN (S.getD p 0)) (codeN (S.getD i 0)) > 0) = false := decide_eq_false (by show ¬ (0 < cmp3 _ _); rw [cmp3_gt]; omega)
        clear hcc
        generalize S.getD p 0 = sp at *
        generalize S.getD i 0 = si at *
        generalize hxi : L.getD i 0 = xi at *
        have HX := hide hxi
        clear hxi
        go_wp2_with fail
        go_quiet (first | (go_at_call 16; exact Calls.quiet_of_same (cmp_ok _ _ b4 b3 _)))
        go_wp2_with fail
        clear c4 c40 b4 d2 hp hpI hpl h0
      rotate_left
      focus
        have d1 : ¬ 0 < i := by omega
        clear h0
        generalize S.getD i 0 = si at *
        generalize hxi : L.getD i 0 = xi at *
        have HX := hide hxi
        clear hxi
        go_wp2_with fail
        go_quiet (fail)
        go_wp2_with fail
        clear d1
      all_goals
        clear c1 c2 c3 c10 c20 c30 b3 hbr
        generalize wr = w4 at *
        clear wr
        go_loopw [9, 10] (fun vn vk wr => ∃ (k : Nat) (d : Int), vn = .int .i64 d ∧ vk = .int .i64 k ∧ Hid (k ≤ L.length ∧ d = (oft (L.take k) (codeN xi) : Int) - oft (S.take k) (codeN xi)) ∧ Hid (Thr w (some ⟨xb, xo, none⟩) (some ⟨ob, oo, none⟩) (some ⟨sb, so, none⟩) L S wr)) (fun vn vk wr => L.length - (RowKit.intOf vk).toNat)
        case atStart => exact ⟨0, 0, rfl, rfl, hide ⟨Nat.zero_le _, by simp [oft]⟩, hide ((unhide HT).drewN _)⟩
        case round =>
          obtain ⟨k, d, rfl, rfl, HJ, HU⟩ := hrel
          obtain ⟨hk, i1⟩ := unhide HJ
          have hx1 : oft (L.take k) (codeN xi) ≤ 60 := Nat.le_trans (oft_le _ _) (by rw [List.length_take]; omega)
          have hx2 : oft (S.take k) (codeN xi) ≤ 60 := Nat.le_trans (oft_le _ _) (by rw [List.length_take]; omega)
          have hd1 : -60 ≤ d := by omega
          have hd2 : d ≤ 60 := by omega
          by_cases hkt : k < L.length
          · have hkt' : (k : Int) < L.length := by omega
            have e1 := fun m => ((unhide HU).drewN m).x.cell k hkt
            have e2 := fun m => ((unhide HU).drewN m).x.cell i hlt
            have e3 := fun m => ((unhide HU).drewN m).s.cell k (by omega)
            have e10 := (unhide HU).x.cell k hkt
            have e20 := (unhide HU).x.cell i hlt
            have e30 := (unhide HU).s.cell k (by omega)
            have b2 := (unhide HU).x.lt k hkt
            have b3 := (unhide HU).s.lt k (by omega)
            rw [unhide HX] at e20
            simp only [unhide HX] at e2
            have J1 := oft_step L (codeN xi) k hkt
            have J2 := oft_step S (codeN xi) k (by omega)
            have m1 := cmp3_same (codeN (L.getD k 0)) (codeN xi)
            have m2 := cmp3_same (codeN (S.getD k 0)) (codeN xi)
            generalize L.getD k 0 = xk at *
            generalize S.getD k 0 = sk at *
            have J : (oft (L.take (k + 1)) (codeN xi) : Int) - oft (S.take (k + 1)) (codeN xi) = d + cond (decide (codeN xk = codeN xi)) 1 0 - cond (decide (codeN sk = codeN xi)) 1 0 := by
              rw [J1, J2, i1]
              by_cases f1 : codeN xk = codeN xi <;> by_cases f2 : codeN sk = codeN xi <;> simp [f1, f2] <;> omega
            have HN := hide J
            clear J J1 J2 i1 HJ hx1 hx2
            cases f1 : decide (codeN xk = codeN xi) <;> cases f2 : decide (codeN sk = codeN xi)
            all_goals
              rw [f1, f2] at HN
              rw [f1] at m1
              rw [f2] at m2
              clear f1 f2
              go_wp2_with fail
              go_quiet (first | (go_at_call 23; exact Calls.quiet_of_same (same_ok _ _ b2 b1 _)))
              go_wp2_with fail
              go_quiet (first | (go_at_call 23; exact (same_ok _ _ b3 b1 _).mono fun _ _ h => ⟨h.1, _, h.2⟩))
              go_wp2
              go_roundw
              case rel => exact ⟨k + 1, _, rfl, by go_num, hide ⟨hkt, by have := unhide HN; dsimp only [cond] at this; omega⟩, hide ((unhide HU).drewN _)⟩
              case measure => simp [RowKit.intOf]; omega
          · have hkt' : ¬ (k : Int) < L.length := by omega
            obtain rfl : k = L.length := by omega
            rw [List.take_length, ← hlen, List.take_length, oft_perm (unhide HP), Int.sub_self] at i1
            subst i1
            clear HJ hx1 hx2 hd1 hd2 hkt hk
            go_wp2
            go_roundw
            case rel => exact ⟨i + 1, by go_num, hide hlt, HU⟩
            case measure => simp [RowKit.intOf]; omega
    · have hlt' : ¬ (i : Int) < L.length := by omega
      have hsum := from_run
      obtain ⟨k, hk⟩ : ∃ k, k = rankN L (codeN y) := ⟨_, rfl⟩
      have hkl : k ≤ L.length := by rw [hk]; exact rank_le _ _
      have KR := hide (rank_ok va ca L y wr hy (unhide HT).x (by omega))
      rw [← hk] at KR
      have hpl : ∀ p, p < L.length → (p < k ↔ cd S p < codeN y) := fun p hp => by
        rw [hk, ← rank_perm (unhide HP)]
        exact rank_place (codeN y) (by rw [hlen]; exact unhide HR) p (by omega)
      have HPL := hide hpl
      clear hpl hk HP HR
      have hpy := hy
      go_wp2_with fail
      refine (unhide KR).mono ?_
      rintro e w' ⟨rfl, h⟩; rw [h]; clear h w' KR
      have hk0 : (0 : Int) ≤ k := by omega
      have hk1 : (k : Int) ≤ L.length := by omega
      rcases (show k = 0 ∨ 0 < k by omega) with h0 | h0 <;> rcases (show k = L.length ∨ k < L.length by omega) with h1 | h1
      · subst h0
        have h2 : L.length = 0 := h1.symm
        clear h1 hkl hk0 hk1 hlt hlt'
        go_wp2_with (first | (go_at_call 10; refine (unhide A _).mono ?_; rintro e w9 ⟨rfl, h9⟩; have H9 := hide h9; clear h9))
        go_ret
        exact ⟨rfl, below_step (unhide HT).bel (unhide H9)⟩
      · subst h0
        obtain ⟨sb, so, rfl, -, -⟩ := (unhide HT).s 0 (by omega)
        have c1 := (unhide HT).s.cell 0 (by omega)
        rw [Nat.add_zero] at c1
        have b1 := (unhide HT).s.lt 0 (by omega)
        have hn : ¬ codeN (S.getD 0 0) < codeN y := fun h => by have := (unhide HPL 0 h1).2 h; omega
        have d2 : (cmp3 (codeN (S.getD 0 0)) (codeN y) ≥ 0) = True := by rw [cmp3_ge]; simpa using hn
        have h2 : ¬ L.length = 0 := by omega
        clear hn hkl hk0 hk1 hlt hlt'
        generalize S.getD 0 0 = s1 at *
        go_wp2_with (first | (go_at_call 16; refine (cmp_ok _ _ (by assumption) hpy _).mono ?_; rintro e w' ⟨rfl, h⟩; rw [h]; clear h w') | (go_at_call 10; refine (unhide A _).mono ?_; rintro e w9 ⟨rfl, h9⟩; have H9 := hide h9; clear h9))
        go_ret
        exact ⟨rfl, below_step (unhide HT).bel (unhide H9)⟩
      · subst h1
        obtain ⟨p, hp⟩ : ∃ p, p + 1 = L.length := ⟨L.length - 1, by omega⟩
        have hpI : (L.length : Int) - 1 = (p : Int) := by omega
        have hpl : p < L.length := by omega
        obtain ⟨sb, so, rfl, -, -⟩ := (unhide HT).s p (by omega)
        have c1 := (unhide HT).s.cell p (by omega)
        have b1 := (unhide HT).s.lt p (by omega)
        have hn : codeN (S.getD p 0) < codeN y := (unhide HPL p hpl).1 (by omega)
        have d2 : (cmp3 (codeN (S.getD p 0)) (codeN y) < 0) = True := by rw [cmp3_lt]; simpa using hn
        have h2 : ¬ L.length = 0 := by omega
        clear hn hlt hlt' hp h0
        generalize S.getD p 0 = s1 at *
        go_wp2_with (first | (go_at_call 16; refine (cmp_ok _ _ (by assumption) hpy _).mono ?_; rintro e w' ⟨rfl, h⟩; rw [h]; clear h w') | (go_at_call 10; refine (unhide A _).mono ?_; rintro e w9 ⟨rfl, h9⟩; have H9 := hide h9; clear h9))
        go_ret
        exact ⟨rfl, below_step (unhide HT).bel (unhide H9)⟩
      · obtain ⟨p, hp⟩ : ∃ p, p + 1 = k := ⟨k - 1, by omega⟩
        have hpI : (k : Int) - 1 = (p : Int) := by omega
        have hpl : p < L.length := by omega
        obtain ⟨sb, so, rfl, -, -⟩ := (unhide HT).s p (by omega)
        have c1 := (unhide HT).s.cell p (by omega)
        have b1 := (unhide HT).s.lt p (by omega)
        have c2 := (unhide HT).s.cell k (by omega)
        have b2 := (unhide HT).s.lt k (by omega)
        have hn : codeN (S.getD p 0) < codeN y := (unhide HPL p hpl).1 (by omega)
        have d2 : (cmp3 (codeN (S.getD p 0)) (codeN y) < 0) = True := by rw [cmp3_lt]; simpa using hn
        have hm : ¬ codeN (S.getD k 0) < codeN y := fun h => by have := (unhide HPL k h1).2 h; omega
        have d3 : (cmp3 (codeN (S.getD k 0)) (codeN y) ≥ 0) = True := by rw [cmp3_ge]; simpa using hm
        have h2 : ¬ k = 0 := by omega
        have h3 : ¬ k = L.length := by omega
        clear hn hm hlt hlt' hp h0
        generalize S.getD p 0 = s1 at *
        generalize S.getD k 0 = s2 at *
        go_wp2_with (first | (go_at_call 16; refine (cmp_ok _ _ (by assumption) hpy _).mono ?_; rintro e w' ⟨rfl, h⟩; rw [h]; clear h w') | (go_at_call 10; refine (unhide A _).mono ?_; rintro e w9 ⟨rfl, h9⟩; have H9 := hide h9; clear h9))
        go_ret
        exact ⟨rfl, below_step (unhide HT).bel (unhide H9)⟩
end Go.Proofs.Ytggjcfmoebghjaa
