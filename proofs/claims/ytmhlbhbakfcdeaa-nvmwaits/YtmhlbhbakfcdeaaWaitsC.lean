/- NvmWaits' closure. -/
import Derived.Test.YtmhlbhbakfcdeaaLinesC
import Derived.Test.YtmhlbhbakfcdeaaEvict
import Derived.Deep.RegionHeld3
namespace Go.Proofs.Ytmhlbhbakfcdeaa
open Go.RowKit

/-- An array of n truths. -/
def barr (n : Nat) (f : Nat → Bool) : Array Value := ((List.range n).map fun j => Value.bool (f j)).toArray
theorem barr_get (n : Nat) (f : Nat → Bool) (j : Nat) (hj : j < n) : (barr n f)[j]? = some (.bool (f j)) := by simp [barr, hj]
theorem barr_set (n : Nat) (f : Nat → Bool) (i : Nat) (v : Bool) : (barr n f).setIfInBounds i (.bool v) = barr n (upd f i v) := by
  apply Array.ext
  · simp [barr]
  · intro j h1 h2
    simp [barr] at h1
    simp only [barr, upd]
    by_cases e : j = i
    · subst e; simp
    · rw [Array.getElem_setIfInBounds_ne (by simpa [barr] using h1) (fun x => e x.symm)]; simp [e]

/-- One block of another's: an array of truths. -/
def gW (p : Nat) (f : Nat → Bool) : Nat → Option Obj := upd noG p (some (.cells (barr 64 f) 36))
theorem gW_at (p : Nat) (f : Nat → Bool) : gW p f p = some (.cells (barr 64 f) 36 (0, 0)) := upd_same _ _ _
theorem gW_other (p : Nat) (f : Nat → Bool) {k : Nat} (h : k ≠ p) : gW p f k = none := upd_other _ _ h
theorem At.setW {w0 w : World} {b p : Nat} {F : Nat → Prop} {A : Ab} {f : Nat → Bool} (h : At w0 b F (gW p f) w A) (i : Nat) (v : Bool) : At w0 b F (gW p (upd f i v)) (w.setCell ⟨p, i, none⟩ (.bool v)) A := by
  have := h.setCell (gW_at p f) i (.bool v)
  rw [barr_set] at this
  have e : upd (gW p f) p (some (Obj.cells (barr 64 (upd f i v)) 36 (0, 0))) = gW p (upd f i v) := by
    funext k
    by_cases ek : k = p
    · subst ek; rw [upd_same, gW_at]
    · rw [upd_other _ _ ek, gW_other _ _ ek, gW_other _ _ ek]
  rwa [e] at this

/-- What the array of truths holds: the words below 64 whose content is not what lasts. -/
def Tells (f : Nat → Bool) (A : Ab) : Prop := ∀ j, j < 64 → f j = decide (A.now j ≠ A.lasts j)

set_option maxHeartbeats 1000000 in
theorem waits1 {w : World} {b pB pd pW : Nat} {F : Nat → Prop} {a1 : Option Addr} {len1 cap1 : Nat} {z1 : Nat → Int}
    (h : At w b F (gW pW fun _ => false) w (Ab.fresh 8)) (hd : w.cell? ⟨pd, 0, none⟩ = some (ptr b)) (ndF : ¬ F pd) (ndG : pd ≠ pW)
    (sB : Sees w F (gW pW fun _ => false) pB a1 len1 cap1 z1) :
    Calls Try.prog 18 #[ptr pB, ptr pd, ptr pW] w fun e w' => e = .returned (.tuple #[]) ∧ ∃ f A, At w b F (gW pW f) w' A ∧ Plain A 8 40 ∧ A.lasts = (fun _ => 0) ∧ A.way = (fun _ => none) ∧ Tells f A := by
  have hG : ∀ f k, gW pW (fun _ => false) k = none → gW pW f k = none := fun f k hk => by
    by_cases e : k = pW
    · subst e; rw [gW_at] at hk; cases hk
    · exact gW_other _ _ e
  have HG := hide hG; clear hG
  have HB := hide sB
  have hlen1 := sB.len
  unfold maxLen at hlen1
  have HAt := hide h
  clear sB h
  go_enter Try.func18, Try.ntmps18
  go_wp2
  go_loopw [3] (fun i wr => ∃ (q : Nat) (f : Nat → Bool) (A : Ab), q ≤ 40 ∧ i = .int .i64 q ∧ At w b F (gW pW f) wr A ∧ Plain A 8 q ∧ A.lasts = (fun _ => 0) ∧ A.way = (fun _ => none) ∧ Tells f A) (fun i wr => 40 - (intOf i).toNat)
  case atStart => exact ⟨0, fun _ => false, Ab.fresh 8, by omega, rfl, unhide HAt, ⟨rfl, rfl, rfl, by simp [Ab.fresh]⟩, rfl, rfl, fun j _ => by simp [Ab.fresh]⟩
  case round =>
    obtain ⟨q, f, A, hq, rfl, ha, pl, hlasts, hway, htl⟩ := hrel
    have cB := ((unhide HB).at ha (unhide HG _)).1
    have cd := ha.cell hd ndF (gW_other _ _ ndG)
    by_cases hlt : q < len1 ∧ q < 40
    · obtain ⟨hq1, hq2⟩ := hlt
      obtain ⟨xb, xo, rfl, hxw⟩ := (unhide HB).nums q hq1
      obtain ⟨hxF, hxG0⟩ := (unhide HB).aF (by omega) xb xo rfl
      have hxG : ∀ f, gW pW f xb = none := fun f => unhide HG f xb hxG0
      have hx := ha.cell hxw hxF (hxG _)
      have hm := mask63 (z1 q)
      have hml := msk_le (z1 q) 63
      have hm1 : bits .and .i64 (z1 q / 64) 1 = (msk (z1 q / 64) 1 : Int) := mask_i64 (z1 q / 64) 1 (by omega)
      have hml1 := msk_le (z1 q / 64) 1
      obtain ⟨_, hw2⟩ := wrap_small ((msk (z1 q / 64) 1 : Nat) : Int) (by omega) (by omega)
      generalize msk (z1 q / 64) 1 = u at hm1 hml1 hw2
      have K : Calls Try.prog 12 #[ptr b, .int .i64 (msk (z1 q) 63 : Nat), .int .u64 ((u : Nat) : Int)] wr.drew fun e w' => e = .returned (.tuple #[]) ∧ At w b F (gW pW f) w' (A.tick.store (msk (z1 q) 63) ((u : Nat) : Int)) :=
        at_store ha.drew (pl.live (by omega)) (msk (z1 q) 63) (by rw [pl.n]; omega) ((u : Nat) : Int)
      generalize msk (z1 q) 63 = j at hm hml K
      have HP := hide (And.intro pl (And.intro hlasts (And.intro hway htl)))
      have HK := hide K
      have HXG := hide hxG
      clear ha pl hlasts hway htl hxG0 K hxG
      go_wp2
      go_region_held3 (fun w' => w'.cell? ⟨pd, 0, none⟩ = some (ptr b) ∧ w'.cell? ⟨pB, 0, none⟩ = some (.slice (some ⟨xb, xo, none⟩) len1 cap1) ∧ w'.cell? ⟨xb, xo + q, none⟩ = some (.int .i64 (z1 q))) (go_keep)
        (first | (go_at_call 12; refine (unhide HK).mono ?_; rintro e w2 ⟨rfl, ha2⟩; have cd2 := ha2.cell hd ndF (gW_other _ _ ndG); have cB2 := ((unhide HB).at ha2 (unhide HG _)).1; have hx2 := ha2.cell hxw hxF (unhide HXG _); have cN2 : w2.cell? ⟨pW, j, none⟩ = some (.bool (f j)) := (ha2.gcell (gW_at pW f) j).trans (barr_get 64 f j (by omega)); have zN2 := ha2.gfrozen (gW_at pW f) j; have HA2 := hide ha2; clear ha2))
      go_wp2
      go_roundw
      case rel =>
        obtain ⟨pl, hlasts, hway, htl⟩ := unhide HP
        refine ⟨q + 1, upd f j ((u : Int) != 0), _, by omega, by go_num, (unhide HA2).setW j ((u : Int) != 0), by have := pl.tick.store j (u : Int); simpa using this, hlasts, hway, fun i hi => ?_⟩
        have ht := htl i hi
        simp only [Ab.store, Ab.tick, hlasts, upd] at ht ⊢
        by_cases e : i = j
        · rw [if_pos e, if_pos e]; simp [bne, Bool.beq_eq_decide_eq]
        · rw [if_neg e, if_neg e]; exact ht
      case measure => simp [intOf]; omega
    · by_cases hq1 : q < len1
      · have hq2 : ¬ q < 40 := by omega
        have HP := hide (And.intro ha (And.intro pl (And.intro hlasts (And.intro hway htl))))
        clear hlt ha pl hlasts hway htl
        go_wp2
        go_end0
        obtain ⟨ha, pl, hlasts, hway, htl⟩ := unhide HP
        exact ⟨rfl, f, A, ha, ⟨pl.n, pl.fuse, pl.dead, by have := pl.few; omega⟩, hlasts, hway, htl⟩
      · have HP := hide (And.intro ha (And.intro pl (And.intro hlasts (And.intro hway htl))))
        clear hlt ha pl hlasts hway htl
        go_wp2
        go_end0
        obtain ⟨ha, pl, hlasts, hway, htl⟩ := unhide HP
        exact ⟨rfl, f, A, ha, ⟨pl.n, pl.fuse, pl.dead, by have := pl.few; omega⟩, hlasts, hway, htl⟩
end Go.Proofs.Ytmhlbhbakfcdeaa
