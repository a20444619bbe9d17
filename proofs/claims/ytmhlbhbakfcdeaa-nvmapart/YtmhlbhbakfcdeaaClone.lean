/- slices.Clone of the three rows of a device: the copy is another row of the same cells. -/
import Derived.Test.YtmhlbhbakfcdeaaNew
namespace Go.Proofs.Ytmhlbhbakfcdeaa
open Go.RowKit

theorem nil48 (bn n k : Nat) (w : World) : (binOp .eql 48 (.slice (some ⟨bn, 0, none⟩) n k) (.slice none 0 0)).run Try.prog w = .ok (.bool false) w := by rfl

theorem clone_lines (bn n k : Nat) (vals : List Value) (w : World) (hn : n ≤ 4294967296) (hl : vals.length = n * 8) (hv : ∀ j u, vals[j]? = some u → w.cell? ((⟨bn, 0, none⟩ : Addr).add j) = some u) (h1 : ∀ u ∈ vals, u.oneCell' = true) :
    Calls Try.prog 40 #[.slice (some ⟨bn, 0, none⟩) n k] w fun e w' => ∃ g c, e = .returned (.slice (some ⟨g, 0, none⟩) n c) ∧ w'.ownsRow w.heap.size 57 8 (.slice (some ⟨g, 0, none⟩) n c) n vals ∧ Fr (fun _ => False) w w' := by
  have hE := nil48 bn n k
  have hi := info57w
  obtain ⟨i0, hi0⟩ : ∃ i, Try.prog.info? 57 = some i := by
    cases h : Try.prog.info? 57 with
    | none => rw [h] at hi; simp at hi
    | some i => exact ⟨i, rfl⟩
  rw [hi0] at hi
  simp only [Option.map_some, Option.some.injEq, Prod.mk.injEq] at hi
  have HI := hide (And.intro hi0 hi)
  have HV := hide hv; have H1 := hide h1
  clear hi hi0 hv h1
  go_enter Try.func40, Try.ntmps40
  go_wp2_with (at_builtin; refine wpList_append_own _ rfl _ _ 48 rfl w.heap.size 57 i0 _ 8 64 Try.underlying48 (unhide HI).1 (unhide HI).2.1 (unhide HI).2.2.1 (unhide HI).2.2.2 rfl (by decide) _ 0 [] rfl (World.ownsRow_made w #[] 0 (Nat.le_refl _) (Nat.zero_le _) rfl) ⟨bn, 0, none⟩ n k vals rfl hl (fun j u hj => by rw [World.cell?_alloc_lt _ _ _ (World.block_lt_of_cell? _ _ (unhide HV j u hj))]; exact unhide HV j u hj) (unhide H1) (by simp only [maxLen]; omega) (by omega) (by simp) ?_)
  intro v' w' ho hg hnil
  have HO := hide ho
  have HF : Hid (Fr (fun _ => False) w w') := ((Fr.refl _ w).alloc _).grown hg (fun k hk => .inr (by simp [Value.ownBlock] at hk; omega))
  have HN := hide hnil
  clear ho hg hnil
  go_wp2
  go_ret
  rcases (unhide HO).2 with ⟨e, _⟩ | ⟨g, c, cur, rfl, _⟩
  · exact (unhide HN e).elim
  · exact ⟨g, c, rfl, unhide HO, unhide HF⟩

theorem nil49 (bn n k : Nat) (w : World) : (binOp .eql 49 (.slice (some ⟨bn, 0, none⟩) n k) (.slice none 0 0)).run Try.prog w = .ok (.bool false) w := by rfl

theorem clone_sent (bn n k : Nat) (vals : List Value) (w : World) (hn : n ≤ 4294967296) (hl : vals.length = n * 9) (hv : ∀ j u, vals[j]? = some u → w.cell? ((⟨bn, 0, none⟩ : Addr).add j) = some u) (h1 : ∀ u ∈ vals, u.oneCell' = true) :
    Calls Try.prog 41 #[.slice (some ⟨bn, 0, none⟩) n k] w fun e w' => ∃ g c, e = .returned (.slice (some ⟨g, 0, none⟩) n c) ∧ w'.ownsRow w.heap.size 59 9 (.slice (some ⟨g, 0, none⟩) n c) n vals ∧ Fr (fun _ => False) w w' := by
  have hE := nil49 bn n k
  have hi := info59
  obtain ⟨i0, hi0⟩ : ∃ i, Try.prog.info? 59 = some i := by
    cases h : Try.prog.info? 59 with
    | none => rw [h] at hi; simp at hi
    | some i => exact ⟨i, rfl⟩
  rw [hi0] at hi
  simp only [Option.map_some, Option.some.injEq, Prod.mk.injEq] at hi
  have HI := hide (And.intro hi0 hi)
  have HV := hide hv; have H1 := hide h1
  clear hi hi0 hv h1
  go_enter Try.func41, Try.ntmps41
  go_wp2_with (at_builtin; refine wpList_append_own _ rfl _ _ 49 rfl w.heap.size 59 i0 _ 9 72 Try.underlying49 (unhide HI).1 (unhide HI).2.1 (unhide HI).2.2.1 (unhide HI).2.2.2 rfl (by decide) _ 0 [] rfl (World.ownsRow_made w #[] 0 (Nat.le_refl _) (Nat.zero_le _) rfl) ⟨bn, 0, none⟩ n k vals rfl hl (fun j u hj => by rw [World.cell?_alloc_lt _ _ _ (World.block_lt_of_cell? _ _ (unhide HV j u hj))]; exact unhide HV j u hj) (unhide H1) (by simp only [maxLen]; omega) (by omega) (by simp) ?_)
  intro v' w' ho hg hnil
  have HO := hide ho
  have HF : Hid (Fr (fun _ => False) w w') := ((Fr.refl _ w).alloc _).grown hg (fun k hk => .inr (by simp [Value.ownBlock] at hk; omega))
  have HN := hide hnil
  clear ho hg hnil
  go_wp2
  go_ret
  rcases (unhide HO).2 with ⟨e, _⟩ | ⟨g, c, cur, rfl, _⟩
  · exact (unhide HN e).elim
  · exact ⟨g, c, rfl, unhide HO, unhide HF⟩

theorem nil22 (bn n k : Nat) (w : World) : (binOp .eql 22 (.slice (some ⟨bn, 0, none⟩) n k) (.slice none 0 0)).run Try.prog w = .ok (.bool false) w := by rfl

theorem clone_ints (bn n k : Nat) (vals : List Value) (w : World) (hn : n ≤ 4294967296) (hl : vals.length = n * 1) (hv : ∀ j u, vals[j]? = some u → w.cell? ((⟨bn, 0, none⟩ : Addr).add j) = some u) (h1 : ∀ u ∈ vals, u.oneCell' = true) :
    Calls Try.prog 42 #[.slice (some ⟨bn, 0, none⟩) n k] w fun e w' => ∃ g c, e = .returned (.slice (some ⟨g, 0, none⟩) n c) ∧ w'.ownsRow w.heap.size 3 1 (.slice (some ⟨g, 0, none⟩) n c) n vals ∧ Fr (fun _ => False) w w' := by
  have hE := nil22 bn n k
  have hi := info3
  obtain ⟨i0, hi0⟩ : ∃ i, Try.prog.info? 3 = some i := by
    cases h : Try.prog.info? 3 with
    | none => rw [h] at hi; simp at hi
    | some i => exact ⟨i, rfl⟩
  rw [hi0] at hi
  simp only [Option.map_some, Option.some.injEq, Prod.mk.injEq] at hi
  have HI := hide (And.intro hi0 hi)
  have HV := hide hv; have H1 := hide h1
  clear hi hi0 hv h1
  go_enter Try.func42, Try.ntmps42
  go_wp2_with (at_builtin; refine wpList_append_own _ rfl _ _ 22 rfl w.heap.size 3 i0 _ 1 8 Try.underlying22 (unhide HI).1 (unhide HI).2.1 (unhide HI).2.2.1 (unhide HI).2.2.2 rfl (by decide) _ 0 [] rfl (World.ownsRow_made w #[] 0 (Nat.le_refl _) (Nat.zero_le _) rfl) ⟨bn, 0, none⟩ n k vals rfl hl (fun j u hj => by rw [World.cell?_alloc_lt _ _ _ (World.block_lt_of_cell? _ _ (unhide HV j u hj))]; exact unhide HV j u hj) (unhide H1) (by simp only [maxLen]; omega) (by omega) (by simp) ?_)
  intro v' w' ho hg hnil
  have HO := hide ho
  have HF : Hid (Fr (fun _ => False) w w') := ((Fr.refl _ w).alloc _).grown hg (fun k hk => .inr (by simp [Value.ownBlock] at hk; omega))
  have HN := hide hnil
  clear ho hg hnil
  go_wp2
  go_ret
  rcases (unhide HO).2 with ⟨e, _⟩ | ⟨g, c, cur, rfl, _⟩
  · exact (unhide HN e).elim
  · exact ⟨g, c, rfl, unhide HO, unhide HF⟩

end Go.Proofs.Ytmhlbhbakfcdeaa
