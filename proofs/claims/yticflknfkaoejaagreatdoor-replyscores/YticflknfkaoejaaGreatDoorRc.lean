/- Reply: what the library looks into; the words of a line, in memory. -/
import Derived.Test.YticflknfkaoejaaGreatDoorBoth
import Derived.Test.YticflknfkaoejaaGreatDoorYb
import Derived.Test.YticflknfkaoejaaGreatDoorRa
namespace Go.Proofs.YticflknfkaoejaaGreatDoor
open Go.RowKit

/-- Since the world W, in which lies what the library looks into, nothing of it has turned. -/
structure Kn (W w : World) : Prop where
  lk : Lk W
  mx : ∃ m, W.cell? ⟨2, 0, none⟩ = some (.int .i64 m)
  le : Below W.heap.size W w
theorem Kn.look {W w : World} (h : Kn W w) : Lk w := h.lk.on h.le
theorem Kn.max {W w : World} (h : Kn W w) : ∃ m, w.cell? ⟨2, 0, none⟩ = some (.int .i64 m) := by
  obtain ⟨m, hm⟩ := h.mx
  exact ⟨m, (h.le.cell (World.block_lt_of_cell? W _ hm)).trans hm⟩
theorem Kn.step {W w w' : World} {F : Nat → Prop} (h : Kn W w) (f : Fr F w w') (hF : ∀ k, F k → W.heap.size ≤ k) : Kn W w' := ⟨h.lk, h.mx, h.le.trans (f.below h.le.size hF)⟩
theorem Kn.still {W w w' : World} (h : Kn W w) (f : Still w w') : Kn W w' := h.step f fun _ x => x.elim
theorem Kn.size {W w : World} (h : Kn W w) : W.heap.size ≤ w.heap.size := h.le.size
theorem still_of {w w' : World} (h : Below w.heap.size w w') : Still w w' := Fr.ofBelow h
theorem grow_still (w : World) (k : Nat) (os : Array Obj) : Still w (Go.Sort.grow (w.drewN k) os) := by
  refine ⟨rfl, rfl, rfl, ?_, fun j hj _ => ?_⟩
  · simp [Go.Sort.grow, World.drewN]
  · show ((w.drewN k).heap ++ os)[j]? = w.heap[j]?
    rw [Array.getElem?_append_left (by exact hj)]
    rfl
theorem obj_set {w : World} {f : Nat} {cs : Array Value} {t : Nat} (h : w.heap[f]? = some (.cells cs t)) (i : Nat) (u : Value) : (w.setCell ⟨f, i, none⟩ u).heap[f]? = some (.cells (cs.setIfInBounds i u) t) := by
  simp [World.setCell, Array.getElem?_modify, h]
theorem fr_set {b : Nat} {a w : World} (h : Fr (fun k => k = b) a w) (i : Nat) (u : Value) : Fr (fun k => k = b) a (w.setCell ⟨b, i, none⟩ u) := h.setCell (.inl rfl) u

/-- The words of a line in memory. -/
abbrev Wrd (w : World) (q : Nat) (s : WS) : Prop := w.heap[q]? = some (.cells #[.string (bs s.l), .bool s.m, .bool s.b] 94)
/-- A reader in memory. -/
abbrev Rdr (w : World) (r : Nat) (s : RS) : Prop := w.heap[r]? = some (.cells #[.string (bs s.r), .bool s.b] 57)
/-- The bound of a text here. -/
abbrev Sm (l : List UInt8) : Prop := l.length ≤ 1000000000

theorem cut_call (c : UInt8) (l : List UInt8) (hl : Sm l) {W w : World} (hK : Kn W w) : Calls Tryz.prog 61 #[.string (bs l), .string ⟨#[c]⟩] w fun e w' => e = .returned (.tuple #[.string (bs (cutc c l).1), .string (bs (cutc c l).2.1), .bool (cutc c l).2.2]) ∧ ∃ n, w' = w.drewN n := by
  obtain ⟨m, hm⟩ := hK.max
  have h := Tryz.strings_Cut (bs l) ⟨#[c]⟩ m w (by rw [bs_size]; omega) hm
  rw [bs_data, show (⟨#[c]⟩ : ByteArray).data.toList = [c] from rfl, cut_eq] at h
  exact h

set_option maxRecDepth 100000 in
set_option maxHeartbeats 1000000 in
theorem next_ok {q : Nat} {s : WS} {W w : World} (h : Wrd w q s) (hl : Sm s.l) (hK : Kn W w) :
    Calls Tryz.prog 39 #[ptr q] w fun e w' => e = .returned (.string (bs s.word)) ∧ Wrd w' q s.next ∧ Fr (fun k => k = q) w w' := by
  unfold WS.word WS.next
  have c0 := cell_of_obj h 0
  simp at c0
  have hC := hide (@cut_call 32 s.l hl W w hK)
  have f0 := frozen_of_obj h 0
  have f1 := frozen_of_obj h 1
  have H := hide h
  generalize cutc 32 s.l = c at *
  obtain ⟨a1, a2, a3⟩ := c
  have e1 : ∀ n, ((w.drewN n).setCell ⟨q, 0, none⟩ (.string (bs a2))).cell? ⟨q, 1, none⟩ = some (.bool s.m) := fun n => cell_of_obj (obj_set (by exact h) 0 _) 1
  clear hK h
  go_enter Tryz.func39, Tryz.ntmps39
  go_wp2_with fail
  refine (unhide hC).mono ?_
  rintro e w1 ⟨rfl, n, rfl⟩
  go_wp2
  go_ret
  refine ⟨rfl, ?_, ?_⟩
  · have k := obj_set (obj_set (show (w.drewN n).heap[q]? = _ from unhide H) 0 (.string (bs a2))) 1 (.bool a3)
    exact k
  · exact fr_set (fr_set ((Fr.refl _ w).drewN n) 0 _) 1 _

set_option maxRecDepth 100000 in
set_option maxHeartbeats 1000000 in
theorem wask_ok {q : Nat} {s : WS} {w : World} (h : Wrd w q s) (x : Bool) :
    Calls Tryz.prog 69 #[ptr q, .bool x] w fun e w' => e = .returned (.tuple #[]) ∧ Wrd w' q (s.ask x) ∧ Fr (fun k => k = q) w w' := by
  have c2 := cell_of_obj h 2
  simp at c2
  have f2 := frozen_of_obj h 2
  have H := hide h
  clear h
  cases hb : s.b <;> rw [hb] at c2 <;> cases x
  all_goals
    go_enter Tryz.func69, Tryz.ntmps69
    go_wp2
    go_end0
    refine ⟨rfl, ?_, fr_set (Fr.refl (fun k => k = q) w) _ _⟩
    unfold WS.ask
    rw [hb]
    first | (have k2 := obj_set (unhide H) 2 (.bool true); exact k2) | (have k2 := obj_set (unhide H) 2 (.bool false); exact k2)
theorem wdone_ok {q : Nat} {s : WS} {w : World} (h : Wrd w q s) :
    Calls Tryz.prog 64 #[ptr q] w fun e w' => e = .returned (.bool s.done) ∧ w' = w := by
  have c1 := cell_of_obj h 1
  have c2 := cell_of_obj h 2
  simp at c1 c2
  unfold WS.done
  cases hb : s.b <;> cases hm : s.m <;> rw [hb] at c2 <;> rw [hm] at c1
  all_goals
    clear h
    go_enter Tryz.func64, Tryz.ntmps64
    go_wp2_with (go_at_call 70; go_in)
    go_ret
    exact ⟨rfl, rfl⟩
theorem wright_ok {q : Nat} {s : WS} {w : World} (h : Wrd w q s) :
    Calls Tryz.prog 70 #[ptr q] w fun e w' => e = .returned (.bool (!s.b)) ∧ w' = w := by
  have c2 := cell_of_obj h 2
  simp at c2
  clear h
  go_enter Tryz.func70, Tryz.ntmps70
  go_wp2
  go_ret
  exact ⟨rfl, rfl⟩

theorem all_take (l : List UInt8) (p : UInt8 → Bool) (k : Nat) (c : UInt8) (hc : l[k]? = some c) : (l.take (k + 1)).all p = ((l.take k).all p && p c) := by
  rw [List.take_add_one, hc, List.all_append]
  simp

set_option maxRecDepth 100000 in
set_option maxHeartbeats 1000000 in
theorem isName_ok (l : List UInt8) (hl : l.length ≤ 9223372036854775807) (w : World) : Calls Tryz.prog 82 #[.string (bs l)] w fun e w' => e = .returned (.bool (isN l)) ∧ w' = w := by
  have hsz := bs_size l
  by_cases h1 : l.length < 1
  · have h1' : ((l.length : Int) < 1) = True := by simp; omega
    have HR := hide (show isN l = false by unfold isN; rw [decide_eq_false (by omega)]; rfl)
    clear h1
    go_enter Tryz.func82, Tryz.ntmps82
    go_wp2
    go_ret
    exact ⟨by rw [unhide HR]; rfl, rfl⟩
  · have h1' : ((l.length : Int) < 1) = False := by simp; omega
    by_cases h2 : 64 < l.length
    · have h2' : ((64 : Int) < l.length) = True := by simp; omega
      have HR := hide (show isN l = false by unfold isN; rw [decide_eq_false (by omega)]; rfl)
      clear h1 h2
      go_enter Tryz.func82, Tryz.ntmps82
      go_wp2
      go_ret
      exact ⟨by rw [unhide HR]; rfl, rfl⟩
    · have h2' : ((64 : Int) < l.length) = False := by simp; omega
      have HB := hide (show 1 ≤ l.length ∧ l.length ≤ 64 by omega)
      clear h1 h2 hl
      go_enter Tryz.func82, Tryz.ntmps82
      go_wp2_with fail
      go_loop [3, 14] (fun a i => ∃ k : Nat, i = iv k ∧ Hid (k ≤ l.length ∧ (l.take k).all (fun c => decide (33 ≤ c.toNat ∧ c.toNat ≤ 126)) = true)) (fun _ i => l.length - (RowKit.intOf i).toNat)
      case atStart => exact ⟨0, rfl, hide ⟨Nat.zero_le _, by simp⟩⟩
      case round =>
        obtain ⟨k, rfl, HK⟩ := hrel
        by_cases hlt : k < l.length
        · have hlt' : ((k : Int) < l.length) = True := by simp; omega
          obtain ⟨c, hc⟩ : ∃ c, l[k]? = some c := ⟨_, List.getElem?_eq_getElem hlt⟩
          have hix := bs_ix l k c hc
          have HT := hide (all_take l (fun c => decide (33 ≤ c.toNat ∧ c.toNat ≤ 126)) k c hc)
          have HG := hide (show isN l = true → 33 ≤ c.toNat ∧ c.toNat ≤ 126 from fun h => by
            simp only [isN, Bool.and_eq_true, List.all_eq_true, decide_eq_true_eq] at h
            exact h.2 _ (List.mem_of_getElem? hc))
          have hb := c.toNat_lt
          have HL := hide hlt
          have hk64 : k < 64 := by have := unhide HB; omega
          clear hlt hc
          by_cases hlo : c.toNat < 33
          · have hlo' : ((c.toNat : Int) < 33) = True := by simp; omega
            have HR := hide (show isN l = false from by
              rcases h : isN l with _ | _
              · rfl
              · have := (unhide HG h).1; omega)
            clear hlo hb
            go_wp2
            go_ret
            exact ⟨by rw [unhide HR]; rfl, rfl⟩
          · have hlo' : ((c.toNat : Int) < 33) = False := by simp; omega
            by_cases hhi : 126 < c.toNat
            · have hhi' : ((126 : Int) < c.toNat) = True := by simp; omega
              have HR := hide (show isN l = false from by
                rcases h : isN l with _ | _
                · rfl
                · have := (unhide HG h).2; omega)
              clear hlo hb hhi
              go_wp2
              go_ret
              exact ⟨by rw [unhide HR]; rfl, rfl⟩
            · have hhi' : ((126 : Int) < c.toNat) = False := by simp; omega
              have HT2 := hide (show (l.take (k + 1)).all (fun c => decide (33 ≤ c.toNat ∧ c.toNat ≤ 126)) = true by
                rw [unhide HT, (unhide HK).2]; simp; omega)
              clear hlo hb hhi
              go_wp2
              exact ⟨⟨k + 1, by go_num, hide ⟨by have := unhide HL; omega, unhide HT2⟩⟩, by have := unhide HL; simp [RowKit.intOf]; omega⟩
        · have hlt' : ((k : Int) < l.length) = False := by simp; omega
          have HR := hide (show isN l = true from by
            have h := (unhide HK).2
            rw [List.take_of_length_le (by omega)] at h
            unfold isN
            rw [h, decide_eq_true (unhide HB)]; rfl)
          clear hlt
          go_wp2
          go_ret
          exact ⟨by rw [unhide HR]; rfl, rfl⟩

end Go.Proofs.YticflknfkaoejaaGreatDoor
