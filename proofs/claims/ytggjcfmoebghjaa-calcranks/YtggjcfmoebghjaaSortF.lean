/- calc's Sort: a new row, the same numbers in order. -/
import Derived.Test.YtggjcfmoebghjaaSortS
namespace Go.Proofs.Ytggjcfmoebghjaa
open Go.RowKit

theorem sortStable_ok (g cap : Nat) (l : List Nat) (w : World) (hl : l.length ≤ 60) (hD : Dat w g l w) :
    Calls Try.prog 38 #[.slice (some ⟨g, 0, none⟩) l.length cap, cmpV] w fun e w' => e = .returned (.tuple #[]) ∧ ∃ l', Mv 0 l.length l l' ∧ Srt l' 0 l.length ∧ Dat w g l' w' := by
  have HK := hide (stable_ok g cap l w hl hD)
  clear hD
  go_enter Try.func38, Try.ntmps38
  go_wp2_with fail
  refine (unhide HK).mono ?_
  rintro e w' ⟨rfl, h⟩
  have H := hide h
  clear h HK
  go_wp2
  go_end0
  exact ⟨rfl, unhide H⟩

/-- A row of one's own, as what is put in order. -/
theorem Own.dat {w : World} {base : Nat} {v : Value} {l : List Nat} (h : Own w base v l) : v = .slice none 0 0 ∧ l = [] ∨ ∃ g cap, v = .slice (some ⟨g, 0, none⟩) l.length cap ∧ base ≤ g ∧ g < w.heap.size ∧ Dat w g l w := by
  rcases h.1.2 with ⟨hv, hn⟩ | ⟨g, cap, cur, hv, hb, hg, rest⟩
  · exact .inl ⟨hv, List.length_eq_zero_iff.1 hn⟩
  · refine .inr ⟨g, cap, hv, hb, (Array.getElem?_eq_some_iff.1 hg).1, fun i hi => ?_, fun i => ?_, fun i hi => h.lts i hi, ⟨rfl, rfl, rfl, Nat.le_refl _, fun _ _ _ => rfl⟩⟩
    · have h1 := h.1
      rw [hv] at h1
      rw [h1.cellAt i (by omega)]
      simp [hi]
    · simp [World.frozen?, hg]
theorem Dat.fls {w wr : World} {g : Nat} {l : List Nat} (h : Dat w g l wr) : Fls wr (some ⟨g, 0, none⟩) l := fun k hk => ⟨g, 0, rfl, by rw [Nat.zero_add]; exact h.cell k hk, h.lt k hk⟩

theorem nilF (g n k : Nat) (w : World) : (binOp .eql 23 (.slice (some ⟨g, 0, none⟩) n k) (.slice none 0 0)).run Try.prog w = .ok (.bool false) w := by rfl
theorem nilN (w : World) : (binOp .eql 23 (.slice none 0 0) (.slice none 0 0)).run Try.prog w = .ok (.bool true) w := by rfl

set_option maxHeartbeats 1000000 in
/-- All of a row, in new memory. -/
theorem clone_own (v : Value) (base : Nat) (l : List Nat) (w : World) (hl : l.length ≤ 1000) (hO : Own w base v l) : Calls Try.prog 37 #[v] w fun e w' => ∃ v', e = .returned v' ∧ Own w' w.heap.size v' l ∧ Below w.heap.size w w' := by
  have hlt := hO.2
  rcases hO.cells with ⟨rfl, rfl⟩ | ⟨g, cap, rfl, hc⟩
  · have hE := nilN
    go_enter Try.func37, Try.ntmps37
    go_wp2
    go_ret
    exact ⟨_, rfl, Own.nil _ _, Below.refl _ _⟩
  · have hE := nilF g l.length cap
    obtain ⟨i0, hi⟩ := infoF
    have HI := hide hi
    have HV := hide hc
    have H1 := hide (show ∀ u ∈ l.map (Value.float .f64), u.oneCell' = true by intro u hu; simp at hu; obtain ⟨_, _, rfl⟩ := hu; rfl)
    have hlm : (l.map (Value.float .f64)).length = l.length * 1 := by simp
    have HLM := hide hlm
    have HLT := hide hlt
    generalize hvals : l.map (Value.float .f64) = vals at *
    have HVL := hide hvals
    clear hvals
    clear hi hc hO hlm hlt
    go_enter Try.func37, Try.ntmps37
    go_wp2_with (at_builtin; refine wpList_append_own _ rfl _ _ 23 rfl w.heap.size 24 i0 _ 1 8 Try.underlying23 (unhide HI).1 (unhide HI).2.1 (unhide HI).2.2.1 (unhide HI).2.2.2 rfl (by decide) _ 0 [] rfl (World.ownsRow_made w #[] 0 (Nat.le_refl _) (Nat.zero_le _) rfl) ⟨g, 0, none⟩ l.length cap vals rfl (unhide HLM) (fun j u hj => by rw [World.cell?_alloc_lt _ _ _ (World.block_lt_of_cell? _ _ (unhide HV j u hj))]; exact unhide HV j u hj) (unhide H1) (by simp only [maxLen]; omega) (by omega) (by simp) ?_)
    intro v' w' ho hg hnil
    have HO := hide ho
    have HF := hide (((Below.refl w.heap.size w).alloc (Nat.le_refl _) _).grown hg (by simp) (fun k hk => by simp [Value.ownBlock] at hk; omega))
    clear ho hg hnil
    go_wp2
    go_ret
    exact ⟨v', rfl, ⟨by rw [unhide HVL]; exact unhide HO, unhide HLT⟩, unhide HF⟩

theorem insertion_nil (w : World) : Calls Try.prog 44 #[.slice none 0 0, .int .i64 0, .int .i64 0, cmpV] w fun e w' => e = .returned (.tuple #[]) ∧ w' = w := by
  go_enter Try.func44, Try.ntmps44
  go_wp2
  go_loopw [8, 9] (fun vi _ wr => vi = .int .i64 1 ∧ wr = w) (fun _ _ _ => 0)
  case atStart => exact ⟨rfl, rfl⟩
  case round =>
    obtain ⟨rfl, rfl⟩ := hrel
    go_wp2
    go_end0
    exact ⟨rfl, rfl⟩
theorem stable_nil (w : World) : Calls Try.prog 42 #[.slice none 0 0, .int .i64 0, cmpV] w fun e w' => e = .returned (.tuple #[]) ∧ w' = w := by
  have K := hide insertion_nil
  go_enter Try.func42, Try.ntmps42
  go_wp2
  go_loopw [7, 8] (fun va vb wr => va = .int .i64 0 ∧ vb = .int .i64 20 ∧ wr = w) (fun _ _ _ => 0)
  case atStart => exact ⟨rfl, rfl, rfl⟩
  case round =>
    obtain ⟨rfl, rfl, rfl⟩ := hrel
    go_wp2_with fail
    refine (unhide K _).mono ?_
    rintro e w' ⟨rfl, h⟩; rw [h]; clear h w'
    go_wp2_with fail
    go_loopw [6, 7, 8, 9] (fun vs _ _ _ wx => vs = .int .i64 20 ∧ wx = wr) (fun _ _ _ _ _ => 0)
    case atStart => exact ⟨rfl, rfl⟩
    case round =>
      obtain ⟨rfl, rfl⟩ := hrel
      go_wp2
      go_end0
      exact ⟨rfl, rfl⟩
theorem sortStable_nil (w : World) : Calls Try.prog 38 #[.slice none 0 0, cmpV] w fun e w' => e = .returned (.tuple #[]) ∧ w' = w := by
  have K := hide stable_nil
  go_enter Try.func38, Try.ntmps38
  go_wp2_with fail
  refine (unhide K _).mono ?_
  rintro e w' ⟨rfl, h⟩; rw [h]; clear h w'
  go_wp2
  go_end0
  exact ⟨rfl, rfl⟩

/-- What Sort leaves: a row of new memory, the same numbers, in order. -/
structure Sorted (w : World) (l : List Nat) (v : Value) (L : List Nat) (w' : World) : Prop where
  is : ∃ va cap, v = .slice va l.length cap ∧ Fls w' va L
  len : L.length = l.length
  perm : L.Perm l
  srt : Srt L 0 l.length
  bel : Below w.heap.size w w'
set_option maxHeartbeats 1000000 in
theorem sort_ok (v : Value) (base : Nat) (l : List Nat) (w : World) (hl : l.length ≤ 60) (hO : Own w base v l) : Calls Try.prog 21 #[v] w fun e w' => ∃ v' L, e = .returned v' ∧ Sorted w l v' L w' := by
  have HC := hide (clone_own v base l w (by omega) hO)
  have K0 := hide sortStable_nil
  clear hO
  go_enter Try.func21, Try.ntmps21
  go_wp2_with fail
  refine (unhide HC).mono ?_
  rintro e w1 ⟨v1, rfl, hO1, hB1⟩
  have HB1 := hide hB1
  rcases hO1.dat with ⟨rfl, rfl⟩ | ⟨g, cap, rfl, hg, hgs, hD⟩
  · clear hO1 hB1
    go_wp2_with fail
    refine (unhide K0 _).mono ?_
    rintro e w' ⟨rfl, h⟩; rw [h]; clear h w'
    go_wp2
    go_ret
    exact ⟨_, [], rfl, ⟨none, 0, rfl, fun k hk => by simp at hk⟩, rfl, List.Perm.refl _, fun p q h1 h2 h3 => by simp at h3, unhide HB1⟩
  · have K1 := hide (sortStable_ok g cap l w1 hl hD)
    have HG := hide hg
    have HGS := hide hgs
    clear hO1 hB1 hD hg hgs
    go_wp2_with fail
    refine (unhide K1).mono ?_
    rintro e w2 ⟨rfl, L, hM, hS, hD2⟩
    have HN := hide (show Sorted w l (.slice (some ⟨g, 0, none⟩) l.length cap) L w2 from ⟨⟨_, _, rfl, hD2.fls⟩, hM.len, hM.perm, hS, (unhide HB1).grown hD2.gr (unhide HB1).size (fun k hk => by cases hk; exact unhide HG)⟩)
    clear hM hS hD2 K1
    go_wp2
    go_ret
    exact ⟨_, L, rfl, unhide HN⟩
end Go.Proofs.Ytggjcfmoebghjaa
