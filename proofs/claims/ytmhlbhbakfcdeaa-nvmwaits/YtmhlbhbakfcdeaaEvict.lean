/- Evict: a line lasts as it stands. -/
import Derived.Test.YtmhlbhbakfcdeaaAt
import Derived.BigRegion
namespace Go.Proofs.Ytmhlbhbakfcdeaa
open Go.RowKit

/-- Behind Evict: the line lasts as it stands; an older flush of it is the newer content. -/
def Ab.driven (A : Ab) (a : Nat) : Ab := { A with lasts := fun j => if j / 8 = a then A.now j else A.lasts j }
def Ab.evicted (A : Ab) (a : Nat) : Ab := if (A.way a).isSome = true then (A.driven a).sendLine a else A.driven a

set_option maxHeartbeats 400000 in
theorem evict_no {w : World} {b : Nat} {L : Lay} {A : Ab} (h : DevL w b L A) (i : Int) (hi : i < 0 ∨ A.n * 8 ≤ i) :
    Calls Try.prog 19 #[ptr b, .int .i64 i] w fun e w' => e = .returned (.int .i64 1) ∧ w' = w := by
  have H := has_no b L.bn A.n i w h.n8 h.c0 hi
  clear hi h
  go_enter Try.func19, Try.ntmps19
  go_wp2_with (go_at_call 37; refine H.mono ?_; rintro e w' ⟨rfl, rfl⟩)
  go_ret
  exact ⟨rfl, rfl⟩

theorem driven_dev {w : World} {b : Nat} {L : Lay} {A : Ab} (h : DevL w b L A) (a : Nat) (_ha : a < A.n) : DevL ((set8 w L.bl (a * 8) (fun k => A.now (a * 8 + k))).drew) b L (A.driven a) := by
  refine h.relast (fun j => if j / 8 = a then A.now j else A.lasts j) ((set8_fr _ _ _ _ (Fr.refl (fun k => k = L.bl) w) (.inl rfl)).drew) (fun j hj => ?_) (fun o => ?_)
  · rw [World.cell?_drew]
    by_cases e : j / 8 = a
    · obtain ⟨k, hk, rfl⟩ : ∃ k, k < 8 ∧ j = a * 8 + k := ⟨j % 8, by omega, by omega⟩
      rw [set8_in w L.bl (a * 8) _ k hk (by rw [h.lasts _ hj]; rfl), if_pos e]
    · rw [set8_other _ _ _ _ _ (.inr (by simp; omega)), if_neg e]; exact h.lasts j hj
  · rw [World.frozen?_drew, set8_frozen]; exact h.zl o

set_option maxHeartbeats 1000000 in
theorem evict_ok {w : World} {b : Nat} {L : Lay} {A : Ab} (h : DevL w b L A) (hst : A.steps < 4294967296) (j : Nat) (hj : j < A.n * 8) :
    Calls Try.prog 19 #[ptr b, .int .i64 j] w fun e w' => e = .returned (.int .i64 0) ∧ ∃ L', DevL w' b L' (A.evicted (j / 8)) ∧ Fr (foot b L) w w' ∧ ∀ k, foot b L' k → foot b L k ∨ w.heap.size ≤ k := by
  have H := has_yes b L.bn A.n j w h.n8 h.c0 (by omega) (by omega)
  have hn := h.n8
  have hja : j / 8 < A.n := by omega
  have x0 := h.c0; have x1 := h.c1
  have nn : ∀ k, k < 8 → w.cell? ⟨L.bn, j / 8 * 8 + k, none⟩ = some (.int .u64 (A.now (j / 8 * 8 + k))) := fun k hk => h.now _ (by omega)
  have ll : ∀ k, k < 8 → w.cell? ⟨L.bl, j / 8 * 8 + k, none⟩ = some (.int .u64 (A.lasts (j / 8 * 8 + k))) := fun k hk => h.lasts _ (by omega)
  have n0 := nn 0 (by omega); have n1 := nn 1 (by omega); have n2 := nn 2 (by omega); have n3 := nn 3 (by omega)
  have n4 := nn 4 (by omega); have n5 := nn 5 (by omega); have n6 := nn 6 (by omega); have n7 := nn 7 (by omega)
  have m0 := ll 0 (by omega); have m1 := ll 1 (by omega); have m2 := ll 2 (by omega); have m3 := ll 3 (by omega)
  have m4 := ll 4 (by omega); have m5 := ll 5 (by omega); have m6 := ll 6 (by omega); have m7 := ll 7 (by omega)
  simp only [Nat.add_zero] at n0 m0
  have z0 := h.zl (j / 8 * 8); have z1 := h.zl (j / 8 * 8 + 1); have z2 := h.zl (j / 8 * 8 + 2); have z3 := h.zl (j / 8 * 8 + 3)
  have z4 := h.zl (j / 8 * 8 + 4); have z5 := h.zl (j / 8 * 8 + 5); have z6 := h.zl (j / 8 * 8 + 6); have z7 := h.zl (j / 8 * 8 + 7)
  have D := driven_dev h (j / 8) hja
  have e3 : w.cell? ⟨b, 3, none⟩ = some (row L.bp A.n) := h.c3
  have c3 : ((set8 w L.bl (j / 8 * 8) (fun k => A.now (j / 8 * 8 + k))).drew).cell? ⟨b, 3, none⟩ = some (row L.bp A.n) := D.c3
  have cp : ((set8 w L.bl (j / 8 * 8) (fun k => A.now (j / 8 * 8 + k))).drew).cell? ⟨L.bp, j / 8, none⟩ = some (.int .i64 (L.place (j / 8) : Nat)) := D.plc (j / 8) hja
  have HW := hide (h.wayOk (j / 8) hja)
  have HD := hide D
  have HH := hide h
  have SE := fun hp => hide (send_ok D (j / 8) hja hst hp)
  have HSE := hide SE
  clear nn ll D h SE
  have eq0 : (set8 w L.bl (j / 8 * 8) (fun k => A.now (j / 8 * 8 + k))) = (((((((w.setCell ⟨L.bl, j / 8 * 8, none⟩ (.int .u64 (A.now (j / 8 * 8)))).setCell ⟨L.bl, j / 8 * 8 + 1, none⟩ (.int .u64 (A.now (j / 8 * 8 + 1)))).setCell ⟨L.bl, j / 8 * 8 + 2, none⟩ (.int .u64 (A.now (j / 8 * 8 + 2)))).setCell ⟨L.bl, j / 8 * 8 + 3, none⟩ (.int .u64 (A.now (j / 8 * 8 + 3)))).setCell ⟨L.bl, j / 8 * 8 + 4, none⟩ (.int .u64 (A.now (j / 8 * 8 + 4)))).setCell ⟨L.bl, j / 8 * 8 + 5, none⟩ (.int .u64 (A.now (j / 8 * 8 + 5)))).setCell ⟨L.bl, j / 8 * 8 + 6, none⟩ (.int .u64 (A.now (j / 8 * 8 + 6)))).setCell ⟨L.bl, j / 8 * 8 + 7, none⟩ (.int .u64 (A.now (j / 8 * 8 + 7))) := rfl
  have HEQ := hide eq0
  clear eq0
  go_enter Try.func19, Try.ntmps19
  go_wp2_with (go_at_call 37; refine H.mono ?_; rintro e w' ⟨rfl, rfl⟩)
  go_region
  rw [← unhide HEQ]
  clear n0 n1 n2 n3 n4 n5 n6 n7 m0 m1 m2 m3 m4 m5 m6 m7 z0 z1 z2 z3 z4 z5 z6 z7 HEQ H
  generalize hX : (set8 w' L.bl (j / 8 * 8) (fun k => A.now (j / 8 * 8 + k))).drew = W at HD HSE c3 cp
  have HX : Fr (fun k => k = L.bl) w' W := by rw [← hX]; exact (set8_fr _ _ _ _ (Fr.refl (fun k => k = L.bl) w') (.inl rfl)).drew
  have HFX := hide HX
  clear hX HX
  rcases unhide HW with ⟨e0, ew⟩ | ⟨p, l, e1, e2⟩
  · rw [e0] at cp
    have HE := hide (And.intro e0 ew)
    clear e0 ew
    go_wp2
    go_ret
    refine ⟨rfl, L, ?_, (unhide HFX).mono (fun k hk => .inl (.inr (.inr (.inl hk)))), fun k hk => .inl hk⟩
    simp only [Ab.evicted, (unhide HE).2, Option.isSome_none, Bool.false_eq_true, if_false]
    exact unhide HD
  · rw [e1] at cp
    have hw : (A.way (j / 8)).isSome = true := by rw [((unhide HH).sentOk p _ _ e2).2.2]; rfl
    have HE := hide hw
    have S := unhide (unhide HSE (fun h0 => by rw [e1] at h0; omega))
    have cp' : W.cell? ⟨L.bp, j / 8, none⟩ = some (.int .i64 ((p : Int) + 1)) := cp
    have HS := hide S
    clear e1 e2 hw S cp
    go_wp2_with fail
    refine (unhide HS).mono ?_
    rintro e w2 ⟨rfl, L', d', f', s'⟩
    have HR := hide (And.intro d' (And.intro f' s'))
    clear d' f' s' HS
    go_wp2
    go_ret
    obtain ⟨d', f', s'⟩ := unhide HR
    refine ⟨rfl, L', ?_, ((unhide HFX).mono (fun k hk => .inl (.inr (.inr (.inl hk))))).trans f', fun k hk => ?_⟩
    · simp only [Ab.evicted, if_pos (unhide HE)]; exact d'
    · rcases s' k hk with x | x
      · exact .inl x
      · exact .inr (Nat.le_trans (unhide HFX).size x)
end Go.Proofs.Ytmhlbhbakfcdeaa
