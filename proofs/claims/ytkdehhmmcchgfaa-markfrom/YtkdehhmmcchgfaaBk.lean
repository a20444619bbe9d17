/- slices.Sorted of a set's keys. -/
import Derived.Test.YtkdehhmmcchgfaaRu
import Derived.Shelf.SlIterI.Nil
namespace Go.Proofs.Ytkdehhmmcchgfaa
open Go.RowKit Go.Maps

theorem keys_call (mb : Option Nat) (W : World) : Calls Try.prog 25 #[.map mb] W fun e w' => e = .returned (.func (.func 33) #[] #[.pointer (some ⟨W.heap.size, 0, none⟩)]) ∧ w' = W.alloc (.cells #[.map mb] 42) :=
  (callsIn_wide (n := 6)).1 (AnyZI.keys_in Try.keysA Fence.wide 6 trivial rfl mb W)
theorem sorts_in (m : Nat) : AnyZI.SortsIn Try.prog Try.sortedA_ren Fence.wide m :=
  ⟨fun blk off cap ss W hH hblk hsz => callsIn_wide.2 (Try.slices_Sort_int blk off cap ss W hH hblk hsz), fun p cap W => callsIn_wide.2 (Any.slices_Sort_int_none Try.lays189 p cap W)⟩

theorem keys_sorted (W : World) (mb : Nat) (acc : List Int) (hown : W.ownsMap Try.prog 3 (unitElem (H := Unit)) mb acc.length (setD acc)) (hn : acc.Nodup) (hl : acc.length ≤ 900) :
    Calls Try.prog 24 #[.func (.func 33) #[] #[.pointer (some ⟨W.heap.size, 0, none⟩)]] (W.alloc (.cells #[.map (some mb)] 42)) fun e w' => ∃ v, e = .returned v ∧ Own w' W.heap.size v (srt acc) ∧ Still W w' := by
  have hbl : mb < W.heap.size := hown.lt
  have hs := setD_size acc hn
  have hseq : SeqGives Fence.wide 3 Try.prog 33 #[.pointer (some ⟨W.heap.size, 0, none⟩)] encZ (fun ss => ss.Perm (intKeys (setD acc))) (Maps.size (setD acc)) (W.alloc (.cells #[.map (some mb)] 42)) :=
    AnyZI.keys_gives (ρ := Try.keysA_ren) { Try.keysA with } Fence.wide _ trivial rfl (by omega) W.heap.size mb acc.length (setD acc) _ (by simp) (by simp) (by
      obtain ⟨es, clock, hb, Ft, hs, hD⟩ := hown
      exact ⟨es, clock, (Below.heap_alloc _ _ mb hbl).trans hb, Ft, hs, hD⟩)
  have cS := AnyZI.sorted_in Try.sortedA Fence.wide 6 trivial trivial trivial trivial rfl (by omega) (sorts_in _) (enters_of Try.func32 (by kernel_rfl) rfl) 33 #[.pointer (some ⟨W.heap.size, 0, none⟩)] trivial (enters_of Try.func33 (by kernel_rfl) rfl) _ _ (by rw [hs]; unfold maxLen; omega) (by rw [hs]; omega) _ hseq
  change CallsIn _ _ Try.prog 24 _ _ _ at cS
  refine ((callsIn_wide (n := 6)).1 cS).mono ?_
  rintro e w' ⟨v, ss, rfl, hS, hrow, _, hb⟩
  have hp : acc.Perm (intKeys (setD acc)) := CollectedI.perm (left := fun _ => false) ⟨hn, fun x => by simp [setD_has]⟩ hown (Maps.int_keyed Try.underlying3) Try.underlying3 (fun _ => rfl)
  have hsp : ss.Perm acc := hS.trans hp.symm
  have he : ss.mergeSort (fun x y => decide (x ≤ y)) = srt acc := mergeSort_of_perm_i hsp
  refine ⟨v, rfl, ?_, ?_⟩
  · rw [he] at hrow
    have h2 : w'.ownsRow (W.alloc (.cells #[.map (some mb)] 42)).heap.size 3 1 v (srt acc).length ((srt acc).map iv) := by
      rw [srt_len, ← hsp.length_eq]; exact hrow
    have h3 : Own w' (W.alloc (.cells #[.map (some mb)] 42)).heap.size v (srt acc) := h2
    exact h3.from (by simp)
  · have h1 : Still W (W.alloc (.cells #[.map (some mb)] 42)) := (Fr.refl _ W).alloc _
    exact h1.trans (Fr.ofBelow hb)
end Go.Proofs.Ytkdehhmmcchgfaa
