/- OrderNext walked. -/
import Derived.Test.YtnfpccmnifhflabDoorOd
import Derived.Test.YtnfpccmnifhflabDoorOe
namespace Go.Proofs.YtnfpccmnifhflabDoor
open Go.RowKit

set_option maxRecDepth 100000 in
set_option maxHeartbeats 2000000 in
theorem awake_ok (w : World) : Calls Tryd.prog 6 #[] w fun e w' => e = .returned (.bool true) ∧ Below w.heap.size w w' := by
  have N1 : ∀ w, Calls Tryd.prog 4 #[.string ⟨#[97, 98]⟩] w fun e w' => e = .returned (.tuple #[.string ⟨#[97, 99]⟩, .bool true]) ∧ Below w.heap.size w w' := fun w => next_ok [97, 98] w (by decide)
  have N2 : ∀ w, Calls Tryd.prog 4 #[.string ⟨#[255]⟩] w fun e w' => e = .returned (.tuple #[.string ⟨#[]⟩, .bool false]) ∧ Below w.heap.size w w' := fun w => next_ok [255] w (by decide)
  have T1 : ∀ w, Calls Tryd.prog 7 #[.string ⟨#[97]⟩] w fun e w' => e = .returned (.string ⟨#[97, 0, 1]⟩) ∧ Below w.heap.size w w' := fun w => text_ok [97] (by decide) w
  have S1 := score_ok 4607182418800017408 (by decide)
  have hs : (bs (be 8 (codeN 4607182418800017408))).size = 8 := by rw [bs_size, be_len]
  generalize bs (be 8 (codeN 4607182418800017408)) = sc at *
  go_enter Tryd.func6, Tryd.ntmps6
  go_wp2_with fail
  refine (N1 _).mono ?_
  rintro e w1 ⟨rfl, b1⟩
  go_wp2_with fail
  refine (N2 _).mono ?_
  rintro e w2 ⟨rfl, b2⟩
  go_wp2_with (first | (go_at_call 7; refine (T1 _).mono ?_; rintro e w3 ⟨rfl, b3⟩) | (go_at_call 8; refine (S1 _).mono ?_; rintro e w4 ⟨rfl, b4⟩))
  go_ret
  exact ⟨rfl, Below.up (Below.up (Below.up b1 b2 b1.size) b3 (Nat.le_trans b1.size b2.size)) b4 (Nat.le_trans b1.size (Nat.le_trans b2.size b3.size))⟩
set_option maxRecDepth 100000 in
theorem rnext_ok (l : List UInt8) (w : World) (hl : l.length ≤ 281474976710656) : Calls Tryd.prog 5 #[.string (bs l)] w fun e w' => e = .returned (.tuple #[.string (bs ((nxt l).getD [])), .bool (nxt l).isSome]) ∧ Below w.heap.size w w' := by
  have hsz := bs_size l
  go_enter Tryd.func5, Tryd.ntmps5
  go_wp2_with fail
  go_loop [4] (fun i => ∃ k : Nat, i = .int .i64 (k : Nat) ∧ Hid (k ≤ l.length ∧ ∀ c, c ∈ l.drop k → c = 255)) (fun i => (RowKit.intOf i).toNat)
  case atStart => exact ⟨l.length, rfl, hide ⟨Nat.le_refl _, fun c hc => by simp at hc⟩⟩
  case round =>
    obtain ⟨k, rfl, HK⟩ := hrel
    obtain ⟨hk, h255⟩ := unhide HK
    by_cases h0 : k = 0
    · subst h0
      have HN := hide ((nxt_all l).2 (by simpa using h255))
      go_wp2
      go_ret2
      exact ⟨by rw [unhide HN]; rfl, Below.refl _ _⟩
    · obtain ⟨m, rfl⟩ : ∃ m, k = m + 1 := ⟨k - 1, by omega⟩
      have hc : l[m]? = some l[m] := List.getElem?_eq_getElem (by omega)
      have hix := bs_ix l m l[m] hc
      have hk0 : ((0 : Int) < ((m + 1 : Nat) : Int)) = True := by simp
      have hkm : (((m + 1 : Nat) : Int) - 1) = (m : Int) := by omega
      by_cases h5 : l[m] = 255
      · have h5' : (((l[m].toNat : Nat) : Int) == 255) = true := by rw [h5]; rfl
        go_wp2
        refine ⟨⟨m, rfl, hide ⟨by omega, fun c hc => ?_⟩⟩, by simp [RowKit.intOf]⟩
        rw [List.drop_eq_getElem_cons (by omega)] at hc
        exact (List.mem_cons.1 hc).elim (fun e => e.trans h5) (h255 c)
      · have h5' : (((l[m].toNat : Nat) : Int) == 255) = false := by
          have : l[m].toNat ≠ 255 := fun e => h5 (UInt8.toNat_inj.1 e)
          simp; omega
        have hto := bs_to l m .i64 (by omega)
        have hs : l[m].toNat + 1 = (l[m] + 1).toNat := (u8_succ _ h5).symm
        have hw1 : IntKind.u8.wrap (((l[m].toNat : Nat) : Int) + 1) = (((l[m] + 1).toNat : Nat) : Int) := by
          rw [← hs]
          have := l[m].toNat_lt
          have : l[m].toNat ≠ 255 := fun e => h5 (UInt8.toNat_inj.1 e)
          simp [IntKind.wrap, IntKind.bits, IntKind.signed]; omega
        have HN := hide (show nxt l = some (l.take m ++ [l[m] + 1]) by
          have := nxt_of l[m] (l.drop (m + 1)) h5 h255 (l.take m)
          rwa [← List.drop_eq_getElem_cons (by omega), List.take_append_drop] at this)
        clear HK h255 hs h5
        generalize l[m] + 1 = d at *
        have hcv := conv_one d
        have hadd := bs_add (l.take m) [d] (by simp; omega)
        go_wp2_with fail
        go_region
        go_wp2
        go_ret2
        exact ⟨by rw [unhide HN]; rfl, ((Below.refl _ w).alloc (Nat.le_refl _) _).drew⟩

theorem thenB {a b c : World} (h : Below a.heap.size a b) (k : Below b.heap.size b c) : Below a.heap.size a c := h.trans (k.mono h.size)
theorem bs_beq (a b : List UInt8) : ((bs a).toList == (bs b).toList) = decide (a = b) := by
  rw [bs_list, bs_list]
  by_cases h : a = b
  · rw [decide_eq_true h]; simp [h]
  · rw [decide_eq_false h]; simpa using h
theorem pre_take (k o : List UInt8) : k <+: o ↔ k.length ≤ o.length ∧ o.take k.length = k :=
  ⟨fun h => ⟨h.length_le, (List.prefix_iff_eq_take.1 h).symm⟩, fun h => List.prefix_iff_eq_take.2 h.2.symm⟩

set_option maxRecDepth 100000 in
set_option maxHeartbeats 8000000 in
theorem law_next_ok (k o : List UInt8) (hk : k.length ≤ 140737488355328) (_ : o.length ≤ 140737488355328) (w : World) : Calls Tryd.prog 3 #[.string (bs k), .string (bs o)] w fun e w' => e = .returned (.bool true) ∧ Below w.heap.size w w' := by
  have N1 := fun w => next_ok k w (by omega)
  have N2 := fun w => rnext_ok k w (by omega)
  have hsk := bs_size k
  have hso := bs_size o
  have key : (((k.length : Int) ≤ (o.length : Int)) = False ∧ ¬ k <+: o) ∨ (((k.length : Int) ≤ (o.length : Int)) = True ∧ (∀ w, (Instr.slice 9 (.string (bs o)) none (some (.int .i64 (k.length : Int))) none).run Tryd.prog w = .ok (.string (bs (o.take k.length))) w) ∧ ∃ t, ((bs (o.take k.length)).toList == (bs k).toList) = t ∧ (t = true ↔ k <+: o)) := by
    by_cases h : k.length ≤ o.length
    · refine .inr ⟨by simp; omega, bs_to o k.length .i64 h, _, bs_beq _ _, ?_⟩
      rw [decide_eq_true_iff, pre_take]
      exact ⟨fun e => ⟨h, e⟩, (·.2)⟩
    · exact .inl ⟨by simp; omega, fun p => h p.length_le⟩
  cases hn : nxt k with
  | none =>
    rw [hn] at N1 N2
    have N1' : ∀ w, Calls Tryd.prog 4 #[.string (bs k)] w fun e w' => e = .returned (.tuple #[.string (bs []), .bool false]) ∧ Below w.heap.size w w' := N1
    have N2' : ∀ w, Calls Tryd.prog 5 #[.string (bs k)] w fun e w' => e = .returned (.tuple #[.string (bs []), .bool false]) ∧ Below w.heap.size w w' := N2
    clear N1 N2 hn
    rcases key with ⟨k1, -⟩ | ⟨k1, k2, t, k3, -⟩
    all_goals
      go_enter Tryd.func3, Tryd.ntmps3
      go_wp2_with fail
      refine (N1' _).mono ?_
      rintro e w1 ⟨rfl, b1⟩
      go_wp2_with fail
      refine (N2' _).mono ?_
      rintro e w2 ⟨rfl, b2⟩
      go_wp2_with fail
      refine (awake_ok _).mono ?_
      rintro e w3 ⟨rfl, b3⟩
      go_wp2
      go_ret
      exact ⟨rfl, thenB b1 (thenB b2 b3)⟩
  | some nx =>
    rw [hn] at N1 N2
    have N1' : ∀ w, Calls Tryd.prog 4 #[.string (bs k)] w fun e w' => e = .returned (.tuple #[.string (bs nx), .bool true]) ∧ Below w.heap.size w w' := N1
    have N2' : ∀ w, Calls Tryd.prog 5 #[.string (bs k)] w fun e w' => e = .returned (.tuple #[.string (bs nx), .bool true]) ∧ Below w.heap.size w w' := N2
    have hp := nxt_pre k nx o hn
    have g1 := bs_less o k
    have g2 := bs_less o nx
    have gg : (Op.bytesLess (bs o).toList (bs k).toList = false ∧ Op.bytesLess (bs o).toList (bs nx).toList = true ∧ k <+: o) ∨ (Op.bytesLess (bs o).toList (bs k).toList = true ∧ ¬ k <+: o) ∨ (Op.bytesLess (bs o).toList (bs k).toList = false ∧ Op.bytesLess (bs o).toList (bs nx).toList = false ∧ ¬ k <+: o) := by
      rw [g1, g2]
      by_cases h1 : o < k
      · exact .inr (.inl ⟨decide_eq_true h1, fun p => (hp.2 p).1 h1⟩)
      · by_cases h2 : o < nx
        · exact .inl ⟨decide_eq_false h1, decide_eq_true h2, hp.1 ⟨h1, h2⟩⟩
        · exact .inr (.inr ⟨decide_eq_false h1, decide_eq_false h2, fun p => h2 (hp.2 p).2⟩)
    have all : ((k.length : Int) ≤ (o.length : Int)) = True ∧ (∀ w, (Instr.slice 9 (.string (bs o)) none (some (.int .i64 (k.length : Int))) none).run Tryd.prog w = .ok (.string (bs (o.take k.length))) w) ∧ ((bs (o.take k.length)).toList == (bs k).toList) = true ∧ Op.bytesLess (bs o).toList (bs k).toList = false ∧ Op.bytesLess (bs o).toList (bs nx).toList = true ∨ (((k.length : Int) ≤ (o.length : Int)) = False ∨ ((k.length : Int) ≤ (o.length : Int)) = True ∧ (∀ w, (Instr.slice 9 (.string (bs o)) none (some (.int .i64 (k.length : Int))) none).run Tryd.prog w = .ok (.string (bs (o.take k.length))) w) ∧ ((bs (o.take k.length)).toList == (bs k).toList) = false) ∧ (Op.bytesLess (bs o).toList (bs k).toList = true ∨ Op.bytesLess (bs o).toList (bs k).toList = false ∧ Op.bytesLess (bs o).toList (bs nx).toList = false) := by
      rcases gg with ⟨a1, a2, a3⟩ | ⟨a1, a3⟩ | ⟨a1, a2, a3⟩
      · rcases key with ⟨_, k2⟩ | ⟨k1, k2, t, k3, k4⟩
        · exact absurd a3 k2
        · rw [k4.2 a3] at k3
          exact .inl ⟨k1, k2, k3, a1, a2⟩
      · refine .inr ⟨?_, .inl a1⟩
        rcases key with ⟨k1, _⟩ | ⟨k1, k2, t, k3, k4⟩
        · exact .inl k1
        · have ht : t = false := by cases t with | false => rfl | true => exact absurd (k4.1 rfl) a3
          rw [ht] at k3
          exact .inr ⟨k1, k2, k3⟩
      · refine .inr ⟨?_, .inr ⟨a1, a2⟩⟩
        rcases key with ⟨k1, _⟩ | ⟨k1, k2, t, k3, k4⟩
        · exact .inl k1
        · have ht : t = false := by cases t with | false => rfl | true => exact absurd (k4.1 rfl) a3
          rw [ht] at k3
          exact .inr ⟨k1, k2, k3⟩
    clear N1 N2 hn g1 g2 gg key hp
    rcases all with ⟨k1, k2, k3, a1, a2⟩ | ⟨k1 | ⟨k1, k2, k3⟩, a1 | ⟨a1, a2⟩⟩
    all_goals
      go_enter Tryd.func3, Tryd.ntmps3
      go_wp2_with fail
      refine (N1' _).mono ?_
      rintro e w1 ⟨rfl, b1⟩
      go_wp2_with fail
      refine (N2' _).mono ?_
      rintro e w2 ⟨rfl, b2⟩
      go_wp2_with fail
      refine (awake_ok _).mono ?_
      rintro e w3 ⟨rfl, b3⟩
      go_wp2
      go_ret
      exact ⟨rfl, thenB b1 (thenB b2 b3)⟩
end Go.Proofs.YtnfpccmnifhflabDoor
