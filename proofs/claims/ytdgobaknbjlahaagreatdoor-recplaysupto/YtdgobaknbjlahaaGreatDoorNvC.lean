/- Power, New. -/
import Derived.Test.YtdgobaknbjlahaaGreatDoorNvA
import Derived.Test.YtdgobaknbjlahaaGreatDoorNvB
import Derived.BigRegion
namespace Go.Proofs.YtdgobaknbjlahaaGreatDoor
open Go.RowKit

/-- Is j among the first q of a list of numbers? -/
def nm (zs : Nat → Int) : Nat → Nat → Bool
  | 0, _ => false
  | q + 1, j => if zs q = j then true else nm zs q j

theorem nm_iff (zs : Nat → Int) (j : Nat) : ∀ q, nm zs q j = true ↔ ∃ k, k < q ∧ zs k = j
  | 0 => by simp [nm]
  | q + 1 => by
    simp only [nm]
    by_cases e : zs q = j
    · simp only [if_pos e, true_iff]; exact ⟨q, by omega, e⟩
    · rw [if_neg e, nm_iff zs j q]
      constructor
      · rintro ⟨k, h1, h2⟩; exact ⟨k, by omega, h2⟩
      · rintro ⟨k, h1, h2⟩
        by_cases ek : k = q
        · subst ek; exact absurd h2 e
        · exact ⟨k, by omega, h2⟩

theorem waitL_mem (now lasts : Nat → Int) (j : Nat) : ∀ m, j ∈ waitL now lasts m ↔ j < m ∧ now j ≠ lasts j
  | 0 => by simp [waitL]
  | m + 1 => by
    simp only [waitL]
    by_cases e : now m = lasts m
    · rw [if_pos e, waitL_mem now lasts j m]
      constructor
      · rintro ⟨h1, h2⟩; exact ⟨by omega, h2⟩
      · rintro ⟨h1, h2⟩
        refine ⟨?_, h2⟩
        by_cases ej : j = m
        · subst ej; exact absurd e h2
        · omega
    · rw [if_neg e, List.mem_append, waitL_mem now lasts j m]
      simp only [List.mem_singleton]
      constructor
      · rintro (⟨h1, h2⟩ | rfl)
        · exact ⟨by omega, h2⟩
        · exact ⟨by omega, e⟩
      · rintro ⟨h1, h2⟩
        by_cases ej : j = m
        · exact .inr ej
        · exact .inl ⟨by omega, h2⟩

/-- The words behind the first q of those that wait. -/
def pw (W : List Nat) (named : Nat → Bool) (flip : Bool) (now lasts : Nat → Int) (q j : Nat) : Int := if j ∈ W.take q ∧ named j = flip then lasts j else now j

theorem made_bool (w : World) (m j : Nat) (hj : j < m) : (w.alloc (.cells (madeCells #[.bool false] m) 4)).cell? ⟨w.heap.size, j, none⟩ = some (.bool false) := by
  rw [World.cell?_alloc_new]
  have h : (madeCells #[Value.bool false] m).toList[j]? = some (.bool false) := by rw [toList_madeCells_one]; simp [hj]
  simpa using h

theorem run_copy_lines {k1 k2 : Nat} {P : Program} (w : World) (dT sT ty elem : TypeId) (g n bn : Nat) (now : Nat → Int) (hu : P.underlying dT = some (.slice elem)) (hs : (P.info? elem).map (·.size) = some 8)
    (hsrc : ∀ j, j < n * 8 → w.cell? ⟨bn, j, none⟩ = some (u64 (now j))) (hc : ∀ j, j < n * 8 → (w.cell? ⟨g, j, none⟩).isSome = true) (hf : ∀ j, w.frozen? ⟨g, j, none⟩ = false) :
    (Builtin.copy_ #[dT, sT] ty #[rowc g n k1, rowc bn n k2]).run P w = .ok (goInt n) (w.setCells g 0 ((List.range (n * 8)).map fun j => u64 (now j))) := by
  have hlen : ((List.range (n * 8)).map fun j => u64 (now j)).length = n * 8 := by simp
  have hl := run_loadCells_list (P := P) w ⟨bn, 0, none⟩ ((List.range (n * 8)).map fun j => u64 (now j)) (fun j v hv => by
    have hj : j < n * 8 := by have := (List.getElem?_eq_some_iff.1 hv).1; simpa using this
    have hadd : (⟨bn, 0, none⟩ : Addr).add j = ⟨bn, j, none⟩ := by unfold Addr.add; split <;> simp_all
    rw [hadd, hsrc j hj, ← hv]; simp [hj])
  have hst := run_storeCells_cells (P := P) g 0 ((List.range (n * 8)).map fun j => u64 (now j)) 0 w (fun j hj => by rw [hlen] at hj; simpa using hc j hj) (fun j _ => hf _) (fun v hv => by simp at hv; obtain ⟨a, _, rfl⟩ := hv; rfl)
  rw [hlen] at hl
  cases hq : P.info? elem with
  | none => simp [hq] at hs
  | some i =>
    have hi : i.size = 8 := by simpa [hq] using hs
    simp only [Nat.add_zero] at hst
    simp [Builtin.copy_, run_underlying hu, Builtin.lenOf, Builtin.firstCells, sizeOf, typeInfo, hq, hi, hl, hst]

theorem step_copy_lines {k1 k2 : Nat} {P : Program} {ops : Array Oper} {o : Oper} {a : Act} {w : World} {K : Act → World → Prop} {Q : Exit → Act → World → Prop} {E : Prop} (hgd : o.guard = none) (d s : Operand) (dT sT : TypeId)
    (ho : o.op = .call { callee := .builtin .copy, args := #[d, s], argTypes := #[dT, sT] }) (elem : TypeId) (hu : P.underlying dT = some (.slice elem)) (hsz : (P.info? elem).map (·.size) = some 8)
    (g n bn : Nat) (now : Nat → Int) (hd : a.eval d = rowc g n k1) (hs : a.eval s = rowc bn n k2)
    (hsrc : ∀ j, j < n * 8 → w.cell? ⟨bn, j, none⟩ = some (u64 (now j))) (hc : ∀ j, j < n * 8 → (w.cell? ⟨g, j, none⟩).isSome = true) (hf : ∀ j, w.frozen? ⟨g, j, none⟩ = false)
    (h : K (a.put o.dst (goInt n)) (w.setCells g 0 ((List.range (n * 8)).map fun j => u64 (now j)))) :
    if Region.wanted o (yielded ops a.tmps) = true then Oper.wp P o a w K Q else E := by
  have hw : Region.wanted o (yielded ops a.tmps) = true := by simp [Region.wanted, hgd]
  rw [if_pos hw]
  have hrun := run_copy_lines (k1 := k1) (k2 := k2) (P := P) w dT sT o.type elem g n bn now hu hsz hsrc hc hf
  unfold Oper.wp
  simp [execOp, ho, resolve, invoke, builtin, hd, hs, hrun, Result.andThen]
  exact h

theorem copied (w : World) (g n j : Nat) (now : Nat → Int) (hc : ∀ j, j < n * 8 → (w.cell? ⟨g, j, none⟩).isSome = true) (hj : j < n * 8) :
    (w.setCells g 0 ((List.range (n * 8)).map fun j => u64 (now j))).cell? ⟨g, j, none⟩ = some (u64 (now j)) := by
  have := World.cell?_setCells_in g ((List.range (n * 8)).map fun j => u64 (now j)) 0 w (fun i hi => by
    have hi' : i < n * 8 := by simpa using hi
    simpa using hc i hi') j (by simpa using hj)
  simpa using this

/-- The words turned. -/
theorem DevL.renow {w w' : World} {b : Nat} {L : Lay} {A : Ab} (h : DevL w b L A) (now : Nat → Int) (hf : Fr (fun k => k = L.bn) w w')
    (hl : ∀ j, j < A.n * 8 → w'.cell? ⟨L.bn, j, none⟩ = some (u64 (now j))) (hz : ∀ o, w'.frozen? ⟨L.bn, o, none⟩ = false) : DevL w' b L { A with now := now } := by
  have eb : w'.heap[b]? = w.heap[b]? := hf.block _ h.ltb h.bbn
  have el : w'.heap[L.bl]? = w.heap[L.bl]? := hf.block _ h.ltl (Ne.symm h.bnl)
  have ep : w'.heap[L.bp]? = w.heap[L.bp]? := hf.block _ h.ltp (Ne.symm h.bnp)
  have cb : ∀ o, w'.cell? ⟨b, o, none⟩ = w.cell? ⟨b, o, none⟩ := fun o => World.cell?_of_block eb
  have cl : ∀ o, w'.cell? ⟨L.bl, o, none⟩ = w.cell? ⟨L.bl, o, none⟩ := fun o => World.cell?_of_block el
  have cp : ∀ o, w'.cell? ⟨L.bp, o, none⟩ = w.cell? ⟨L.bp, o, none⟩ := fun o => World.cell?_of_block ep
  refine { h with c0 := ?_, c1 := ?_, c2 := ?_, c3 := ?_, c4 := ?_, c5 := ?_, c6 := ?_, zb := ?_, zn := hz, zl := ?_, zp := ?_, now := hl, lasts := ?_, plc := ?_, own := ?_, ltb := ?_, ltn := ?_, ltl := ?_, ltp := ?_ }
  · rw [cb]; exact h.c0
  · rw [cb]; exact h.c1
  · rw [cb]; exact h.c2
  · rw [cb]; exact h.c3
  · rw [cb]; exact h.c4
  · rw [cb]; exact h.c5
  · rw [cb]; exact h.c6
  · intro o; rw [World.frozen?_of_block (a := ⟨b, o, none⟩) eb]; exact h.zb o
  · intro o; rw [World.frozen?_of_block (a := ⟨L.bl, o, none⟩) el]; exact h.zl o
  · intro o; rw [World.frozen?_of_block (a := ⟨L.bp, o, none⟩) ep]; exact h.zp o
  · intro j hj; rw [cl]; exact h.lasts j hj
  · intro j hj; rw [cp]; exact h.plc j hj
  · exact owns_same h.own fun k hk => hf.block k (h.lts k hk) (fun e => h.sn (by rw [hk, e]))
  · exact Nat.lt_of_lt_of_le h.ltb hf.size
  · exact Nat.lt_of_lt_of_le h.ltn hf.size
  · exact Nat.lt_of_lt_of_le h.ltl hf.size
  · exact Nat.lt_of_lt_of_le h.ltp hf.size

/-- The power comes back. -/
def Ab.powered (A : Ab) (flip : Bool) (named : Nat → Bool) : Ab :=
  { A with now := fun j => if named j = flip then A.lasts j else A.now j, lasts := fun j => if named j = flip then A.lasts j else A.now j, way := fun _ => none, fuse := -1, dead := false }

theorem pw_end {now lasts : Nat → Int} {named : Nat → Bool} {flip : Bool} {m : Nat} (j : Nat) (hj : j < m) (q : Nat) (hq : (waitL now lasts m).length ≤ q) :
    pw (waitL now lasts m) named flip now lasts q j = if named j = flip then lasts j else now j := by
  simp only [pw]
  rw [List.take_of_length_le hq]
  by_cases e : now j = lasts j
  · simp [waitL_mem, e]
  · simp [waitL_mem, hj, e]

/-- A row of numbers, opened: whatever lies there. -/
theorem owns_open {w : World} {base : Nat} {v : Value} {W : List Nat} (h : w.ownsRow base 3 1 v W.length (natVals W)) :
    ∃ va cap, v = .slice va W.length cap ∧ ∀ p, p < W.length → ∃ g, va = some ⟨g, 0, none⟩ ∧ base ≤ g ∧ w.cell? ⟨g, p, none⟩ = some (.int .i64 (W.getD p 0 : Nat)) := by
  rcases h.2 with ⟨hv, hn⟩ | ⟨g, cap, cur, hv, hb, _⟩
  · exact ⟨none, 0, by rw [hv, hn], fun p hp => by omega⟩
  · refine ⟨some ⟨g, 0, none⟩, cap, hv, fun p hp => ⟨g, rfl, hb, ?_⟩⟩
    rw [hv] at h
    rw [h.cellAt p (by omega)]
    simp [natVals, hp]

theorem take_succ_mem {W : List Nat} {q j : Nat} (hq : q < W.length) : j ∈ W.take (q + 1) ↔ j ∈ W.take q ∨ j = W.getD q 0 := by
  rw [List.take_succ_eq_append_getElem hq, List.mem_append, List.mem_singleton, show W.getD q 0 = W[q] from by simp [hq]]

theorem info57 : (Tryz.prog.info? 129).map (·.size) = some 8 := by kernel_rfl
theorem info4 : (Tryz.prog.info? 4).map (fun i => (i.zero, i.size, i.bytes)) = some (some (.bool false), 1, 1) := by kernel_rfl
theorem DevL.keptF {w w' : World} {b : Nat} {L : Lay} {A : Ab} (h : DevL w b L A) (hf : Fr (fun _ => False) w w') : DevL w' b L A := h.kept hf fun _ _ h => h

def zeroLines (n : Nat) : Array Value := madeCells (lineCells fun _ => 0).toArray (n * 8)
def zeroInts (n : Nat) : Array Value := madeCells #[.int .i64 0] n

def Ab.fresh (n : Nat) : Ab := { n := n, now := fun _ => 0, lasts := fun _ => 0, way := fun _ => none, steps := 0, fuse := -1, dead := false }

theorem zeroInts_get (n j : Nat) (hj : j < n) : (zeroInts n)[j]? = some (.int .i64 0) := by
  have h : (madeCells #[Value.int .i64 0] n).toList[j]? = some (.int .i64 0) := by rw [toList_madeCells_one]; simp [hj]
  simpa [zeroInts] using h

theorem zeroLines_get (n j : Nat) (hj : j < n * 8) : (zeroLines n)[j]? = some (u64 0) := by
  simp only [zeroLines, madeCells]
  rw [Array.getElem?_eq_getElem (by simpa using hj)]
  simp
  have : j % 8 = 0 ∨ j % 8 = 1 ∨ j % 8 = 2 ∨ j % 8 = 3 ∨ j % 8 = 4 ∨ j % 8 = 5 ∨ j % 8 = 6 ∨ j % 8 = 7 := by omega
  rcases this with e | e | e | e | e | e | e | e <;> simp [lineCells, e]

theorem new_dev (w : World) (n b bn bl bp : Nat) (hn : n ≤ 8192)
    (hb : w.heap[b]? = some (.cells #[row bn n, row bl n, .slice none 0 0, row bp n, .int .i64 0, .int .i64 (-1), .bool false] 115 (0, 0)))
    (hbn : w.heap[bn]? = some (.cells (zeroLines n) 129 (0, 0))) (hbl : w.heap[bl]? = some (.cells (zeroLines n) 129 (0, 0))) (hbp : w.heap[bp]? = some (.cells (zeroInts n) 3 (0, 0)))
    (d1 : b ≠ bn) (d2 : b ≠ bl) (d3 : b ≠ bp) (d4 : bn ≠ bl) (d5 : bn ≠ bp) (d6 : bl ≠ bp) :
    DevL w b { bn := bn, bl := bl, bp := bp, kn := n, kl := n, kp := n, sv := .slice none 0 0, place := fun _ => 0, sent := [] } (Ab.fresh n) := by
  have cb : ∀ o, w.cell? ⟨b, o, none⟩ = _ := fun o => cell_of_row w b o _ _ _ hb
  refine { n8 := hn, c0 := cb 0, c1 := cb 1, c2 := cb 2, c3 := cb 3, c4 := cb 4, c5 := cb 5, c6 := cb 6, zb := fun o => frozen_of_row w b o _ _ hb, zn := fun o => frozen_of_row w bn o _ _ hbn, zl := fun o => frozen_of_row w bl o _ _ hbl, zp := fun o => frozen_of_row w bp o _ _ hbp, now := fun j hj => ?_, lasts := fun j hj => ?_, plc := fun a ha => ?_, own := World.ownsRow_nil _ _ _ _, bbn := d1, bbl := d2, bbp := d3, bnl := d4, bnp := d5, blp := d6, sb := by simp [Value.ownBlock], sn := by simp [Value.ownBlock], sl := by simp [Value.ownBlock], sp := by simp [Value.ownBlock], ltb := (Array.getElem?_eq_some_iff.1 hb).1, ltn := (Array.getElem?_eq_some_iff.1 hbn).1, ltl := (Array.getElem?_eq_some_iff.1 hbl).1, ltp := (Array.getElem?_eq_some_iff.1 hbp).1, sentOk := fun p a l hp => by simp at hp, wayOk := fun a ha => .inl ⟨rfl, rfl⟩, few := by simp [Ab.fresh] }
  · rw [cell_of_row w bn j _ _ _ hbn, zeroLines_get n j hj]; rfl
  · rw [cell_of_row w bl j _ _ _ hbl, zeroLines_get n j hj]; rfl
  · rw [cell_of_row w bp a _ _ _ hbp, zeroInts_get n a ha]; rfl

theorem info57w : (Tryz.prog.info? 129).map (fun i => (i.zero, i.size, i.bytes)) = some (some (.agg (lineCells fun _ => 0).toArray), 8, 64) := by kernel_rfl

theorem make_lines (n : Nat) (hn : n ≤ 8192) (w : World) : (Instr.makeSlice 112 (.int .i64 (n : Int)) (.int .i64 (n : Int))).run Tryz.prog w = .ok (row w.heap.size n) (w.alloc (.cells (zeroLines n) 129)) := by
  have hi := info57w
  obtain ⟨i0, hi0⟩ : ∃ i, Tryz.prog.info? 129 = some i := by
    cases h : Tryz.prog.info? 129 with
    | none => rw [h] at hi; simp at hi
    | some i => exact ⟨i, rfl⟩
  rw [hi0] at hi
  simp only [Option.map_some, Option.some.injEq, Prod.mk.injEq] at hi
  have := run_make (P := Tryz.prog) w 112 129 i0 _ Tryz.underlying112 hi0 hi.1 .i64 .i64 (n : Int) (n : Int) (by omega) (Int.le_refl _) (by rw [hi.2.2]; omega) (by omega)
  rw [this, hi.2.1, Int.toNat_natCast]
  rfl

theorem make_ints (n : Nat) (hn : n ≤ 8192) (w : World) : (Instr.makeSlice 46 (.int .i64 (n : Int)) (.int .i64 (n : Int))).run Tryz.prog w = .ok (row w.heap.size n) (w.alloc (.cells (zeroInts n) 3)) := by
  have hi := info3
  obtain ⟨i0, hi0⟩ : ∃ i, Tryz.prog.info? 3 = some i := by
    cases h : Tryz.prog.info? 3 with
    | none => rw [h] at hi; simp at hi
    | some i => exact ⟨i, rfl⟩
  rw [hi0] at hi
  simp only [Option.map_some, Option.some.injEq, Prod.mk.injEq] at hi
  have := run_make (P := Tryz.prog) w 46 3 i0 _ Tryz.underlying46 hi0 hi.1 .i64 .i64 (n : Int) (n : Int) (by omega) (Int.le_refl _) (by rw [hi.2.2]; omega) (by omega)
  rw [this, hi.2.1, Int.toNat_natCast, Nat.mul_one]
  rfl

theorem four (w : World) (O1 O2 O3 O4 : Obj) : (((((w.alloc O1).alloc O2).alloc O3).alloc O4).drew).heap[w.heap.size]? = some O1 ∧ (((((w.alloc O1).alloc O2).alloc O3).alloc O4).drew).heap[w.heap.size + 1]? = some O2 ∧
    (((((w.alloc O1).alloc O2).alloc O3).alloc O4).drew).heap[w.heap.size + 2]? = some O3 ∧ (((((w.alloc O1).alloc O2).alloc O3).alloc O4).drew).heap[w.heap.size + 3]? = some O4 := by
  have s1 : (w.alloc O1).heap.size = w.heap.size + 1 := by simp
  have s2 : ((w.alloc O1).alloc O2).heap.size = w.heap.size + 2 := by simp
  have s3 : (((w.alloc O1).alloc O2).alloc O3).heap.size = w.heap.size + 3 := by simp
  refine ⟨?_, ?_, ?_, ?_⟩
  · show ((((w.alloc O1).alloc O2).alloc O3).alloc O4).heap[w.heap.size]? = _
    rw [Below.heap_alloc _ _ _ (by omega), Below.heap_alloc _ _ _ (by omega), Below.heap_alloc _ _ _ (by omega)]; exact heap_alloc_new w O1
  · show ((((w.alloc O1).alloc O2).alloc O3).alloc O4).heap[w.heap.size + 1]? = _
    rw [Below.heap_alloc _ _ _ (by omega), Below.heap_alloc _ _ _ (by omega), ← s1]; exact heap_alloc_new _ O2
  · show ((((w.alloc O1).alloc O2).alloc O3).alloc O4).heap[w.heap.size + 2]? = _
    rw [Below.heap_alloc _ _ _ (by omega), ← s2]; exact heap_alloc_new _ O3
  · show ((((w.alloc O1).alloc O2).alloc O3).alloc O4).heap[w.heap.size + 3]? = _
    rw [← s3]; exact heap_alloc_new _ O4

theorem new_close (w : World) (n : Nat) (hn : n ≤ 8192) (O1 O2 O3 : Obj) (bn bl bp : Nat)
    (h1 : bn = w.heap.size ∧ O1 = .cells (zeroLines n) 129 ∨ bn = w.heap.size + 1 ∧ O2 = .cells (zeroLines n) 129 ∨ bn = w.heap.size + 1 + 1 ∧ O3 = .cells (zeroLines n) 129)
    (h2 : bl = w.heap.size ∧ O1 = .cells (zeroLines n) 129 ∨ bl = w.heap.size + 1 ∧ O2 = .cells (zeroLines n) 129 ∨ bl = w.heap.size + 1 + 1 ∧ O3 = .cells (zeroLines n) 129)
    (h3 : bp = w.heap.size ∧ O1 = .cells (zeroInts n) 3 ∨ bp = w.heap.size + 1 ∧ O2 = .cells (zeroInts n) 3 ∨ bp = w.heap.size + 1 + 1 ∧ O3 = .cells (zeroInts n) 3)
    (d4 : bn ≠ bl) (d5 : bn ≠ bp) (d6 : bl ≠ bp) :
    ∃ L, DevL ((((w.alloc O1).alloc O2).alloc O3).alloc (.cells #[row bn n, row bl n, .slice none 0 0, row bp n, .int .i64 0, .int .i64 (-1), .bool false] 115)).drew (w.heap.size + 3) L (Ab.fresh n) ∧
      Fr (fun _ => False) w ((((w.alloc O1).alloc O2).alloc O3).alloc (.cells #[row bn n, row bl n, .slice none 0 0, row bp n, .int .i64 0, .int .i64 (-1), .bool false] 115)).drew ∧ ∀ k, foot (w.heap.size + 3) L k → w.heap.size ≤ k := by
  obtain ⟨f1, f2, f3, f4⟩ := four w O1 O2 O3 (.cells #[row bn n, row bl n, .slice none 0 0, row bp n, .int .i64 0, .int .i64 (-1), .bool false] 115)
  refine ⟨_, new_dev _ n (w.heap.size + 3) bn bl bp hn f4 ?_ ?_ ?_ (by omega) (by omega) (by omega) d4 d5 d6, (((((Fr.refl _ w).alloc _).alloc _).alloc _).alloc _).drew, ?_⟩
  · rcases h1 with ⟨rfl, e⟩ | ⟨rfl, e⟩ | ⟨rfl, e⟩
    · rw [f1, e]
    · rw [f2, e]
    · rw [f3, e]
  · rcases h2 with ⟨rfl, e⟩ | ⟨rfl, e⟩ | ⟨rfl, e⟩
    · rw [f1, e]
    · rw [f2, e]
    · rw [f3, e]
  · rcases h3 with ⟨rfl, e⟩ | ⟨rfl, e⟩ | ⟨rfl, e⟩
    · rw [f1, e]
    · rw [f2, e]
    · rw [f3, e]
  · rintro k (hk | hk | hk | hk | hk)
    · omega
    · simp at hk; omega
    · simp at hk; omega
    · simp at hk; omega
    · simp [Value.ownBlock] at hk

/-- What New gives: a device of n lines. -/
def NewOk (n : Nat) (w : World) (e : Ending) (w' : World) : Prop :=
  e = .returned (.tuple #[ptr (w.heap.size + 3), .int .i64 0]) ∧ ∃ L, DevL w' (w.heap.size + 3) L (Ab.fresh n) ∧ Fr (fun _ => False) w w' ∧ ∀ k, foot (w.heap.size + 3) L k → w.heap.size ≤ k

set_option maxHeartbeats 1000000 in
theorem new_one (w : World) : Calls Tryz.prog 44 #[.int .i64 8] w (NewOk 1 w) := by
  have m1 : ∀ w : World, (Instr.makeSlice 112 (.int .i64 1) (.int .i64 1)).run Tryz.prog w = .ok (row w.heap.size 1) (w.alloc (.cells (zeroLines 1) 129)) := make_lines 1 (by omega)
  have m2 : ∀ w : World, (Instr.makeSlice 46 (.int .i64 1) (.int .i64 1)).run Tryz.prog w = .ok (row w.heap.size 1) (w.alloc (.cells (zeroInts 1) 3)) := make_ints 1 (by omega)
  unfold NewOk
  go_enter Tryz.func44, Tryz.ntmps44
  go_wp2
  go_region
  all_goals
    go_wp2
    go_ret2
    refine ⟨rfl, new_close w 1 (by omega) _ _ _ _ _ _ (by simp) (by simp) (by simp) (by omega) (by omega) (by omega)⟩

set_option maxHeartbeats 1000000 in
theorem new_two (w : World) : Calls Tryz.prog 44 #[.int .i64 16] w (NewOk 2 w) := by
  have m1 : ∀ w : World, (Instr.makeSlice 112 (.int .i64 2) (.int .i64 2)).run Tryz.prog w = .ok (row w.heap.size 2) (w.alloc (.cells (zeroLines 2) 129)) := make_lines 2 (by omega)
  have m2 : ∀ w : World, (Instr.makeSlice 46 (.int .i64 2) (.int .i64 2)).run Tryz.prog w = .ok (row w.heap.size 2) (w.alloc (.cells (zeroInts 2) 3)) := make_ints 2 (by omega)
  unfold NewOk
  go_enter Tryz.func44, Tryz.ntmps44
  go_wp2
  go_region
  all_goals
    go_wp2
    go_ret2
    refine ⟨rfl, new_close w 2 (by omega) _ _ _ _ _ _ (by simp) (by simp) (by simp) (by omega) (by omega) (by omega)⟩

set_option maxHeartbeats 1000000 in
theorem new_four (w : World) : Calls Tryz.prog 44 #[.int .i64 32] w (NewOk 4 w) := by
  have m1 : ∀ w : World, (Instr.makeSlice 112 (.int .i64 4) (.int .i64 4)).run Tryz.prog w = .ok (row w.heap.size 4) (w.alloc (.cells (zeroLines 4) 129)) := make_lines 4 (by omega)
  have m2 : ∀ w : World, (Instr.makeSlice 46 (.int .i64 4) (.int .i64 4)).run Tryz.prog w = .ok (row w.heap.size 4) (w.alloc (.cells (zeroInts 4) 3)) := make_ints 4 (by omega)
  unfold NewOk
  go_enter Tryz.func44, Tryz.ntmps44
  go_wp2
  go_region
  all_goals
    go_wp2
    go_ret2
    refine ⟨rfl, new_close w 4 (by omega) _ _ _ _ _ _ (by simp) (by simp) (by simp) (by omega) (by omega) (by omega)⟩

set_option maxHeartbeats 1000000 in
theorem new_eight (w : World) : Calls Tryz.prog 44 #[.int .i64 64] w (NewOk 8 w) := by
  have m1 : ∀ w : World, (Instr.makeSlice 112 (.int .i64 8) (.int .i64 8)).run Tryz.prog w = .ok (row w.heap.size 8) (w.alloc (.cells (zeroLines 8) 129)) := make_lines 8 (by omega)
  have m2 : ∀ w : World, (Instr.makeSlice 46 (.int .i64 8) (.int .i64 8)).run Tryz.prog w = .ok (row w.heap.size 8) (w.alloc (.cells (zeroInts 8) 3)) := make_ints 8 (by omega)
  unfold NewOk
  go_enter Tryz.func44, Tryz.ntmps44
  go_wp2
  go_region
  all_goals
    go_wp2
    go_ret2
    refine ⟨rfl, new_close w 8 (by omega) _ _ _ _ _ _ (by simp) (by simp) (by simp) (by omega) (by omega) (by omega)⟩

set_option maxHeartbeats 1000000 in
theorem new_256 (w : World) : Calls Tryz.prog 44 #[.int .i64 256] w (NewOk 32 w) := by
  have m1 : ∀ w : World, (Instr.makeSlice 112 (.int .i64 32) (.int .i64 32)).run Tryz.prog w = .ok (row w.heap.size 32) (w.alloc (.cells (zeroLines 32) 129)) := make_lines 32 (by omega)
  have m2 : ∀ w : World, (Instr.makeSlice 46 (.int .i64 32) (.int .i64 32)).run Tryz.prog w = .ok (row w.heap.size 32) (w.alloc (.cells (zeroInts 32) 3)) := make_ints 32 (by omega)
  unfold NewOk
  go_enter Tryz.func44, Tryz.ntmps44
  go_wp2
  go_region
  all_goals
    go_wp2
    go_ret2
    refine ⟨rfl, new_close w 32 (by omega) _ _ _ _ _ _ (by simp) (by simp) (by simp) (by omega) (by omega) (by omega)⟩
end Go.Proofs.YtdgobaknbjlahaaGreatDoor
