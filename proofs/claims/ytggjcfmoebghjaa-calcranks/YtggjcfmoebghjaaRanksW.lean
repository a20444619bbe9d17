/- CalcRanks walked. -/
import Derived.Test.YtggjcfmoebghjaaSortsW
namespace Go.Proofs.Ytggjcfmoebghjaa
open Go.RowKit

theorem rank_up (l : List Nat) (c d : Nat) (h : c ≤ d) : rankN l c ≤ rankN l d := by
  unfold rankN
  exact List.countP_mono_left fun x _ hx => by simp at hx ⊢; omega
/-- The two rows of the law. -/
structure Duo (w : World) (va vs : Option Addr) (L S : List Nat) (wr : World) : Prop where
  x : Fls wr va L
  s : Fls wr vs S
  bel : Below w.heap.size w wr
theorem Duo.drewN {w wr : World} {va vs : Option Addr} {L S : List Nat} (h : Duo w va vs L S wr) (n : Nat) : Duo w va vs L S (wr.drewN n) := ⟨h.x, h.s, below_step h.bel (below_drewN' wr n)⟩
theorem cmp3_le (p q : Nat) : (cmp3 p q ≤ 0) = ¬ q < p := by
  unfold cmp3; split
  · simp; omega
  · split <;> simp <;> omega

/-- math's NaN. -/
abbrev nanV : Nat := 9221120237041090561

set_option maxRecDepth 100000 in
set_option maxHeartbeats 4000000 in
theorem ranks_ok (a0 : Option Addr) (len0 cap0 : Nat) (z0 : Nat → Int) (p q : Nat) (hp : p < 18446744073709551616) (hq : q < 18446744073709551616) (w : World) (hN0 : Nums .u64 w a0 len0 z0) (hz0 : ∀ i, i < len0 → (z0 i).toNat < 18446744073709551616) :
    Calls Try.prog 6 #[.slice a0 len0 cap0, .int .u64 p, .int .u64 q] w fun e w' => e = .returned (.bool true) ∧ Below w.heap.size w w' := by
  have F0 := hide (floats_ok a0 len0 cap0 z0 w hN0 hz0)
  have A := hide awake_ok
  clear hN0 hz0
  go_enter Try.func6, Try.ntmps6
  go_wp2_with fail
  refine (unhide F0).mono ?_
  rintro e w1 ⟨v0, rfl, hO0, hB0⟩
  have l0 := flo_len z0 (min len0 60)
  generalize flo z0 (min len0 60) = L at *
  have HS := hide (sort_ok v0 w.heap.size L w1 (by omega) hO0)
  obtain ⟨va, ca, rfl, hf0, -⟩ := hO0.fls
  have HF0 := hide hf0
  have HB := hide hB0
  have hL60 : L.length ≤ 60 := by omega
  have hfr := from_run
  clear hO0 hB0 hf0 l0 F0
  go_wp2_with fail
  refine (unhide HS).mono ?_
  rintro e w2 ⟨v2, S, rfl, ⟨⟨vs, cs, rfl, hfs⟩, hlen, hperm, hsrt, hbel⟩⟩
  have HT := hide (show Duo w va vs L S w2 from ⟨(unhide HF0).on hbel, hfs, below_step (unhide HB) hbel⟩)
  have hpl : ∀ c i, i < L.length → (i < rankN L c ↔ cd S i < c) := fun c i hi => by
    rw [← rank_perm hperm]
    exact rank_place c (by rw [hlen]; exact hsrt) i (by omega)
  have HPL := hide hpl
  have HR := hide hsrt
  have KR := hide (fun x hx w' h => rank_ok va ca L x w' hx (Duo.x (w := w) (vs := vs) (S := S) h) (by omega))
  have HLE := hide (rank_le L)
  have r1 := rank_le L (codeN p)
  have r2 := rank_le L (codeN q)
  have u1 := rank_up L (codeN p) (codeN q)
  have hfs0 : Fls w2 none [] := fun k hk => by simp at hk
  have hcl := cmp3_le (codeN p) (codeN q)
  have hcs := cmp3_same (codeN p) (codeN q)
  have u2 : codeN p = codeN q → rankN L (codeN p) = rankN L (codeN q) := fun h => by rw [h]
  clear hpl hfs hperm hsrt hbel HF0 HB HS hfs0
  have KR1 := hide (unhide KR p hp w2 (unhide HT))
  have KR2 := hide (unhide KR q hq w2 (unhide HT))
  generalize rankN L (codeN p) = i at *
  generalize rankN L (codeN q) = j at *
  go_wp2_with fail
  refine (unhide KR1).mono ?_
  rintro e w' ⟨rfl, h⟩; rw [h]; clear h w' KR1
  go_wp2_with fail
  refine (unhide KR2).mono ?_
  rintro e w' ⟨rfl, h⟩; rw [h]; clear h w' KR2
  have hnan : nanV < 18446744073709551616 := by decide
  have HNAN := hide (rank_le L (codeN nanV))
  have H3 : Hid (((cmp3 (codeN p) (codeN q) ≤ 0) = True ∧ (cmp3 (codeN p) (codeN q) == 0) = false ∧ ¬ j < i) ∨ ((cmp3 (codeN p) (codeN q) ≤ 0) = True ∧ (cmp3 (codeN p) (codeN q) == 0) = true ∧ i = j) ∨ ((cmp3 (codeN p) (codeN q) ≤ 0) = False ∧ (cmp3 (codeN p) (codeN q) == 0) = false)) := hide (by
    rw [hcl, hcs]
    rcases Nat.lt_trichotomy (codeN p) (codeN q) with h | h | h
    · exact .inl ⟨by simp; omega, by simp; omega, by have := u1 (by omega); omega⟩
    · exact .inr (.inl ⟨by simp; omega, by simp; omega, u2 h⟩)
    · exact .inr (.inr ⟨by simp; omega, by simp; omega⟩))
  clear hcl hcs u1 u2
  rcases unhide H3 with ⟨f1, f2, f3⟩ | ⟨f1, f2, f3⟩ | ⟨f1, f2⟩
  all_goals
    clear H3
    go_wp2_with (first | (go_at_call 16; refine (cmp_ok _ _ hp hq _).mono ?_; rintro e w' ⟨rfl, h⟩; rw [h]; clear h w') | (go_at_call 23; refine (same_ok _ _ hp hq _).mono ?_; rintro e w' ⟨rfl, h⟩; rw [h]; clear h w'))
    clear f1 f2
    try clear f3
    go_loopw [13, 14] (fun vk _ wr => ∃ (k : Nat), vk = .int .i64 k ∧ Hid (k ≤ L.length) ∧ Hid (Duo w va vs L S wr)) (fun vk _ wr => L.length - (RowKit.intOf vk).toNat)
    case atStart => exact ⟨0, rfl, hide (Nat.zero_le _), HT⟩
    case round =>
      obtain ⟨k, rfl, HI, HT⟩ := hrel
      have hk := unhide HI
      by_cases hlt : k < L.length
      · have hlt' : (k : Int) < L.length := by omega
        obtain ⟨sb, so, rfl, -, -⟩ := (unhide HT).s k (by omega)
        have c1 := fun m => ((unhide HT).drewN m).s.cell k (by omega)
        have c10 := (unhide HT).s.cell k (by omega)
        have b1 := (unhide HT).s.lt k (by omega)
        obtain ⟨r, hr⟩ : ∃ r, r = rankN L (codeN (S.getD k 0)) := ⟨_, rfl⟩
        have hrk : r ≤ k := by
          have := unhide HPL (codeN (S.getD k 0)) k hlt
          rw [← hr] at this
          exact Nat.le_of_not_lt fun h => Nat.lt_irrefl _ (this.1 h)
        have K1 := hide (unhide KR (S.getD k 0) b1 wr (unhide HT))
        rw [← hr] at K1
        rcases (show r = k ∨ r < k by omega) with h0 | h0
        · subst h0
          clear hr
          generalize S.getD r 0 = x at *
          go_wp2_with fail
          refine (unhide K1).mono ?_
          rintro e w' ⟨rfl, h⟩; rw [h]; clear h w' K1
          go_wp2_with fail
          go_quiet (fail)
          go_wp2
          go_roundw
          case rel => exact ⟨r + 1, by go_num, hide hlt, hide ((unhide HT).drewN _)⟩
          case measure => simp [RowKit.intOf]; omega
        · have c2 := fun m => ((unhide HT).drewN m).s.cell r (by omega)
          have c20 := (unhide HT).s.cell r (by omega)
          have b2 := (unhide HT).s.lt r (by omega)
          have hrl : r < L.length := by omega
          have e1 : codeN (S.getD r 0) = codeN (S.getD k 0) := by
            have h1 := unhide HPL (codeN (S.getD k 0)) r hrl
            rw [← hr] at h1
            have h2 : codeN (S.getD r 0) ≤ codeN (S.getD k 0) := unhide HR r k (Nat.zero_le _) h0 hlt
            have h3 : ¬ codeN (S.getD r 0) < codeN (S.getD k 0) := fun h => Nat.lt_irrefl _ (h1.2 h)
            omega
          have d1 : (cmp3 (codeN (S.getD r 0)) (codeN (S.getD k 0)) == 0) = true := by rw [cmp3_same, e1]; simp
          have d2 : ¬ k < r := by omega
          clear hr e1
          generalize S.getD r 0 = y at *
          generalize S.getD k 0 = x at *
          go_wp2_with fail
          refine (unhide K1).mono ?_
          rintro e w' ⟨rfl, h⟩; rw [h]; clear h w' K1
          go_wp2_with fail
          go_quiet (first | (go_at_call 23; exact Calls.quiet_of_same (same_ok _ _ b2 b1 _)))
          go_wp2
          go_roundw
          case rel => exact ⟨k + 1, by go_num, hide hlt, hide ((unhide HT).drewN _)⟩
          case measure => simp [RowKit.intOf]; omega
      · have hlt' : ¬ (k : Int) < L.length := by omega
        have K1 := hide (unhide KR nanV hnan wr (unhide HT))
        have K2 := hide (rank_ok none 0 [] p wr hp (fun k hk => by simp at hk) (by simp))
        have hle := unhide HNAN
        generalize rankN L (codeN nanV) = m at *
        go_wp2_with fail
        refine (nan_ok _).mono ?_
        rintro e w' ⟨rfl, h⟩; rw [h]; clear h w'
        go_wp2_with fail
        refine (unhide K1).mono ?_
        rintro e w' ⟨rfl, h⟩; rw [h]; clear h w' K1
        go_wp2_with fail
        refine (unhide K2).mono ?_
        rintro e w' ⟨rfl, h⟩; rw [h]; clear h w' K2
        rw [show ((rankN [] (codeN p) : Nat) : Int) = 0 from rfl]
        go_wp2_with (first | (go_at_call 10; refine (unhide A _).mono ?_; rintro e w9 ⟨rfl, h9⟩; have H9 := hide h9; clear h9))
        go_ret
        exact ⟨rfl, below_step (unhide HT).bel (unhide H9)⟩
end Go.Proofs.Ytggjcfmoebghjaa
