/- order: what comes next. -/
import Derived.Test.YtnfpccmnifhflabDoorOb
namespace Go.Proofs.YtnfpccmnifhflabDoor
open Go.RowKit

theorem conv_one (d : UInt8) (w : World) : (convert 26 9 (.slice (some ⟨w.heap.size, 0, none⟩) 1 1)).run Tryd.prog (w.alloc (.cells #[.int .u8 ((d.toNat : Nat) : Int)] 5)).drew = .ok (.string (bs [d])) (w.alloc (.cells #[.int .u8 ((d.toNat : Nat) : Int)] 5)).drew :=
  conv_own _ w.heap.size _ [d] (OwnL.drewN (OwnL.one .u8 5 w d.toNat) 1)
set_option maxRecDepth 100000 in
theorem next_ok (l : List UInt8) (w : World) (hl : l.length ≤ 281474976710656) : Calls Tryd.prog 4 #[.string (bs l)] w fun e w' => e = .returned (.tuple #[.string (bs ((nxt l).getD [])), .bool (nxt l).isSome]) ∧ Below w.heap.size w w' := by
  have hsz := bs_size l
  go_enter Tryd.func4, Tryd.ntmps4
  go_wp2_with fail
  go_loop [4] (fun i => ∃ k : Nat, i = .int .i64 (k : Nat) ∧ Hid (k ≤ l.length ∧ ∀ c, c ∈ l.drop k → c = 255)) (fun i => (RowKit.intOf i).toNat)
  case atStart => exact ⟨l.length, rfl, hide ⟨Nat.le_refl _, fun c hc => by simp at hc⟩⟩
  case round =>
    obtain ⟨k, rfl, HK⟩ := hrel
    obtain ⟨hk, h255⟩ := unhide HK
    by_cases h0 : k = 0
    · subst h0
      have HN := hide ((nxt_all l).2 (by simpa using h255))
      go_wp2
      go_ret2
      exact ⟨by rw [unhide HN]; rfl, Below.refl _ _⟩
    · obtain ⟨m, rfl⟩ : ∃ m, k = m + 1 := ⟨k - 1, by omega⟩
      have hc : l[m]? = some l[m] := List.getElem?_eq_getElem (by omega)
      have hix := bs_ix l m l[m] hc
      have hk0 : ((0 : Int) < ((m + 1 : Nat) : Int)) = True := by simp
      have hkm : (((m + 1 : Nat) : Int) - 1) = (m : Int) := by omega
      by_cases h5 : l[m] = 255
      · have h5' : (((l[m].toNat : Nat) : Int) == 255) = true := by rw [h5]; rfl
        go_wp2
        refine ⟨⟨m, rfl, hide ⟨by omega, fun c hc => ?_⟩⟩, by simp [RowKit.intOf]⟩
        rw [List.drop_eq_getElem_cons (by omega)] at hc
        exact (List.mem_cons.1 hc).elim (fun e => e.trans h5) (h255 c)
      · have h5' : (((l[m].toNat : Nat) : Int) == 255) = false := by
          have : l[m].toNat ≠ 255 := fun e => h5 (UInt8.toNat_inj.1 e)
          simp; omega
        have hto := bs_to l m .i64 (by omega)
        have hs : l[m].toNat + 1 = (l[m] + 1).toNat := (u8_succ _ h5).symm
        have hw1 : IntKind.u8.wrap (((l[m].toNat : Nat) : Int) + 1) = (((l[m] + 1).toNat : Nat) : Int) := by
          rw [← hs]
          have := l[m].toNat_lt
          have : l[m].toNat ≠ 255 := fun e => h5 (UInt8.toNat_inj.1 e)
          simp [IntKind.wrap, IntKind.bits, IntKind.signed]; omega
        have HN := hide (show nxt l = some (l.take m ++ [l[m] + 1]) by
          have := nxt_of l[m] (l.drop (m + 1)) h5 h255 (l.take m)
          rwa [← List.drop_eq_getElem_cons (by omega), List.take_append_drop] at this)
        clear HK h255 hs h5
        generalize l[m] + 1 = d at *
        have hcv := conv_one d
        have hadd := bs_add (l.take m) [d] (by simp; omega)
        go_wp2_with fail
        go_region
        go_wp2
        go_ret2
        exact ⟨by rw [unhide HN]; rfl, ((Below.refl _ w).alloc (Nat.le_refl _) _).drew⟩
end Go.Proofs.YtnfpccmnifhflabDoor
