/- Commit where nothing is done: no writes, a word that may not be, too many. -/
import Derived.Test.YtamghkabclbkgaaCommit
namespace Go.Proofs.Ytamghkabclbkgaa
open Go.RowKit

section
variable {w : World} {b : Nat} {L : Lay} {N : Nat} {A : Ab} {lg at_ ws : Nat}

set_option maxHeartbeats 1000000 in
theorem commit_none (hl : LogAt w lg b at_ ws) (h16 : 16 ≤ ws) (hw : ws ≤ 65536) (la : Option Addr) (cap : Nat) :
    Calls Try.prog 43 #[ptr lg, .slice la 0 cap] w fun e w' => e = .returned (.int .i64 0) ∧ w' = w := by
  have M := most_ok hl h16 hw
  have HM := hide M
  clear M hl
  go_enter Try.func43, Try.ntmps43
  go_wp2
  go_loopw [9] (fun i wr => i = .int .i64 0 ∧ wr = w) (fun i wr => 0)
  case atStart => exact ⟨rfl, rfl⟩
  case round =>
    obtain ⟨rfl, rfl⟩ := hrel
    go_wp2_with (go_at_call 61; refine (unhide HM).mono ?_; rintro e w' ⟨rfl, hh⟩; replace hh := hh.symm; subst hh)
    go_ret
    exact ⟨rfl, rfl⟩

set_option maxHeartbeats 1000000 in
theorem commit_arg (d : DevL w b L A) (hl : LogAt w lg b at_ ws) (xb xo cap : Nat) (xs : List (Int × Int)) (hx : WrAt w xb xo xs) (hw : at_ + ws ≤ 65536) (hlen4 : xs.length < 4294967296)
    (k0 : Nat) (hk0 : k0 < xs.length) (hb : ¬ outside A.n at_ (xs.getD k0 (0, 0)).1 (at_ + ws)) (ho : ∀ (k : Nat) (x : Int × Int), k < k0 → xs[k]? = some x → outside A.n at_ x.1 (at_ + ws)) :
    Calls Try.prog 43 #[ptr lg, .slice (some ⟨xb, xo, none⟩) xs.length cap] w fun e w' => e = .returned (.int .i64 1) ∧ Fr (fun _ => False) w w'  := by
  have n8 := d.n8
  have HD := hide d; have HL := hide hl; have HX := hide hx; have HO := hide ho; have HB := hide hb
  clear d hl hx ho hb
  generalize hlen : xs.length = len at *
  have HLEN := hide hlen
  clear hlen
  go_enter Try.func43, Try.ntmps43
  go_wp2
  go_loopw [9] (fun i wr => ∃ k : Nat, k ≤ k0 ∧ i = .int .i64 k ∧ Fr (fun _ => False) w wr) (fun i wr => k0 - (intOf i).toNat)
  case atStart => exact ⟨0, Nat.zero_le _, rfl, Fr.refl _ _⟩
  case round =>
    obtain ⟨k, hk, rfl, fk⟩ := hrel
    by_cases hlt : k < k0
    · obtain ⟨x, hxk⟩ : ∃ x, xs[k]? = some x := ⟨_, List.getElem?_eq_getElem (by rw [unhide HLEN]; omega)⟩
      have ho := unhide HO k x hlt hxk
      obtain ⟨cw, cv⟩ := (unhide HX).kept fk (fun h => h) k x hxk
      have HFK := hide fk; have HOU := hide ho
      clear fk hxk ho
      go_wp2
      obtain ⟨W1, hW1⟩ : ∃ W1, wr.alloc (.cells #[.int .i64 x.1, .int .u64 x.2] 67) = W1 := ⟨_, rfl⟩
      have f1 : Fr (fun _ => False) w W1 := hW1 ▸ (unhide HFK).alloc _
      have x0 : W1.cell? ⟨wr.heap.size, 0, none⟩ = some (.int .i64 x.1) := by rw [← hW1]; exact cell_of_row _ _ _ _ _ _ (heap_alloc_new wr _)
      rw [hW1]
      generalize wr.heap.size = bx at *
      have l1 := (unhide HL).kept f1 (fun h => h)
      have d1 := (unhide HD).keptF f1
      have c1 := l1.c1
      have c2 := l1.c2
      have d0 := d1.c0
      have HF1 := hide f1; have HL1 := hide l1; have HD0 := hide d0
      clear hW1 f1 l1 d1 cw cv HFK d0
      refine region_tailP 13 (by kernel_rfl) (by kernel_rfl) ?_
      simp only [List.take_succ_cons, List.take_zero, List.drop_succ_cons, List.drop_zero]
      repeat (go_big_quiet_step (first | (go_at_call 60; exact Calls.quiet_of_same (outside_yes ((unhide HL1).drewN _) n8 (unhide HD0) _ _ (unhide HOU)))))
      refine wpQuiet_nil ?_
      rintro _ ⟨nq, rfl⟩
      clear c1 c2 x0
      go_wp2
      exact ⟨⟨k + 1, by omega, by go_num, (unhide HF1).drewN _⟩, by simp [intOf]; omega⟩
    · obtain rfl : k = k0 := by omega
      obtain ⟨x, hxk⟩ : ∃ x, xs[k]? = some x := ⟨_, List.getElem?_eq_getElem (by rw [unhide HLEN]; omega)⟩
      have ho := (show ¬ outside A.n at_ x.1 (at_ + ws) from by have := unhide HB; rwa [List.getD_eq_getElem?_getD, hxk] at this)
      obtain ⟨cw, cv⟩ := (unhide HX).kept fk (fun h => h) k x hxk
      have HFK := hide fk; have HOU := hide ho
      clear fk hxk ho
      go_wp2
      obtain ⟨W1, hW1⟩ : ∃ W1, wr.alloc (.cells #[.int .i64 x.1, .int .u64 x.2] 67) = W1 := ⟨_, rfl⟩
      have f1 : Fr (fun _ => False) w W1 := hW1 ▸ (unhide HFK).alloc _
      have x0 : W1.cell? ⟨wr.heap.size, 0, none⟩ = some (.int .i64 x.1) := by rw [← hW1]; exact cell_of_row _ _ _ _ _ _ (heap_alloc_new wr _)
      rw [hW1]
      generalize wr.heap.size = bx at *
      have l1 := (unhide HL).kept f1 (fun h => h)
      have d1 := (unhide HD).keptF f1
      have c1 := l1.c1
      have c2 := l1.c2
      have d0 := d1.c0
      have HF1 := hide f1; have HL1 := hide l1; have HD0 := hide d0
      clear hW1 f1 l1 d1 cw cv HFK d0
      refine region_tailP 13 (by kernel_rfl) (by kernel_rfl) ?_
      simp only [List.take_succ_cons, List.take_zero, List.drop_succ_cons, List.drop_zero]
      repeat (go_big_quiet_step (first | (go_at_call 60; exact Calls.quiet_of_same (outside_no ((unhide HL1).drewN _) n8 (unhide HD0) _ _ (unhide HOU)))))
      refine wpQuiet_nil ?_
      rintro _ ⟨nq, rfl⟩
      clear c1 c2 x0
      go_wp2
      go_ret
      exact ⟨rfl, (unhide HF1).drewN _⟩

set_option maxHeartbeats 1000000 in
theorem commit_big (d : DevL w b L A) (hl : LogAt w lg b at_ ws) (xb xo cap : Nat) (xs : List (Int × Int)) (hx : WrAt w xb xo xs) (h16 : 16 ≤ ws) (hw : at_ + ws ≤ 65536) (hlen4 : xs.length < 4294967296)
    (hb : (ws - 16) / 2 < xs.length) (ho : ∀ (k : Nat) (x : Int × Int), xs[k]? = some x → outside A.n at_ x.1 (at_ + ws)) :
    Calls Try.prog 43 #[ptr lg, .slice (some ⟨xb, xo, none⟩) xs.length cap] w fun e w' => e = .returned (.int .i64 5) ∧ Fr (fun _ => False) w w'  := by
  have n8 := d.n8
  have HD := hide d; have HL := hide hl; have HX := hide hx; have HO := hide ho
  clear d hl hx ho
  generalize hlen : xs.length = len at *
  have HLEN := hide hlen
  clear hlen
  go_enter Try.func43, Try.ntmps43
  go_wp2
  go_loopw [9] (fun i wr => ∃ k : Nat, k ≤ len ∧ i = .int .i64 k ∧ Fr (fun _ => False) w wr) (fun i wr => len - (intOf i).toNat)
  case atStart => exact ⟨0, Nat.zero_le _, rfl, Fr.refl _ _⟩
  case round =>
    obtain ⟨k, hk, rfl, fk⟩ := hrel
    by_cases hlt : k < len
    · obtain ⟨x, hxk⟩ : ∃ x, xs[k]? = some x := ⟨_, List.getElem?_eq_getElem (by rw [unhide HLEN]; omega)⟩
      have ho := unhide HO k x hxk
      obtain ⟨cw, cv⟩ := (unhide HX).kept fk (fun h => h) k x hxk
      have HFK := hide fk; have HOU := hide ho
      clear fk hxk ho
      go_wp2
      obtain ⟨W1, hW1⟩ : ∃ W1, wr.alloc (.cells #[.int .i64 x.1, .int .u64 x.2] 67) = W1 := ⟨_, rfl⟩
      have f1 : Fr (fun _ => False) w W1 := hW1 ▸ (unhide HFK).alloc _
      have x0 : W1.cell? ⟨wr.heap.size, 0, none⟩ = some (.int .i64 x.1) := by rw [← hW1]; exact cell_of_row _ _ _ _ _ _ (heap_alloc_new wr _)
      rw [hW1]
      generalize wr.heap.size = bx at *
      have l1 := (unhide HL).kept f1 (fun h => h)
      have d1 := (unhide HD).keptF f1
      have c1 := l1.c1
      have c2 := l1.c2
      have d0 := d1.c0
      have HF1 := hide f1; have HL1 := hide l1; have HD0 := hide d0
      clear hW1 f1 l1 d1 cw cv HFK d0
      refine region_tailP 13 (by kernel_rfl) (by kernel_rfl) ?_
      simp only [List.take_succ_cons, List.take_zero, List.drop_succ_cons, List.drop_zero]
      repeat (go_big_quiet_step (first | (go_at_call 60; exact Calls.quiet_of_same (outside_yes ((unhide HL1).drewN _) n8 (unhide HD0) _ _ (unhide HOU)))))
      refine wpQuiet_nil ?_
      rintro _ ⟨nq, rfl⟩
      clear c1 c2 x0
      go_wp2
      exact ⟨⟨k + 1, by omega, by go_num, (unhide HF1).drewN _⟩, by simp [intOf]; omega⟩
    · obtain rfl : k = len := by omega
      have M1 := most_ok ((unhide HL).kept fk (fun h => h)) h16 (by omega)
      have HM1 := hide M1; have HFK := hide fk
      clear fk M1 HX
      go_wp2_with (go_at_call 61; refine (unhide HM1).mono ?_; rintro e w' ⟨rfl, hh⟩; replace hh := hh.symm; subst hh)
      go_ret
      exact ⟨rfl, unhide HFK⟩
end
end Go.Proofs.Ytamghkabclbkgaa
