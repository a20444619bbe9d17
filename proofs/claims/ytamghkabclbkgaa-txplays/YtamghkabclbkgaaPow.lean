/- Small laws for Power: lists of names, lists of waiting words, lines copied. -/
import Derived.Test.YtamghkabclbkgaaWait
import Derived.Test.YtamghkabclbkgaaRoom
import Derived.Test.YtamghkabclbkgaaFence
namespace Go.Proofs.Ytamghkabclbkgaa
open Go.RowKit

/-- Is j among the first q of a list of numbers? -/
def nm (zs : Nat → Int) : Nat → Nat → Bool
  | 0, _ => false
  | q + 1, j => if zs q = j then true else nm zs q j

theorem nm_iff (zs : Nat → Int) (j : Nat) : ∀ q, nm zs q j = true ↔ ∃ k, k < q ∧ zs k = j
  | 0 => by simp [nm]
  | q + 1 => by
    simp only [nm]
    by_cases e : zs q = j
    · simp only [if_pos e, true_iff]; exact ⟨q, by omega, e⟩
    · rw [if_neg e, nm_iff zs j q]
      constructor
      · rintro ⟨k, h1, h2⟩; exact ⟨k, by omega, h2⟩
      · rintro ⟨k, h1, h2⟩
        by_cases ek : k = q
        · subst ek; exact absurd h2 e
        · exact ⟨k, by omega, h2⟩

theorem waitL_mem (now lasts : Nat → Int) (j : Nat) : ∀ m, j ∈ waitL now lasts m ↔ j < m ∧ now j ≠ lasts j
  | 0 => by simp [waitL]
  | m + 1 => by
    simp only [waitL]
    by_cases e : now m = lasts m
    · rw [if_pos e, waitL_mem now lasts j m]
      constructor
      · rintro ⟨h1, h2⟩; exact ⟨by omega, h2⟩
      · rintro ⟨h1, h2⟩
        refine ⟨?_, h2⟩
        by_cases ej : j = m
        · subst ej; exact absurd e h2
        · omega
    · rw [if_neg e, List.mem_append, waitL_mem now lasts j m]
      simp only [List.mem_singleton]
      constructor
      · rintro (⟨h1, h2⟩ | rfl)
        · exact ⟨by omega, h2⟩
        · exact ⟨by omega, e⟩
      · rintro ⟨h1, h2⟩
        by_cases ej : j = m
        · exact .inr ej
        · exact .inl ⟨by omega, h2⟩

/-- The words behind the first q of those that wait. -/
def pw (W : List Nat) (named : Nat → Bool) (flip : Bool) (now lasts : Nat → Int) (q j : Nat) : Int := if j ∈ W.take q ∧ named j = flip then lasts j else now j

theorem made_bool (w : World) (m j : Nat) (hj : j < m) : (w.alloc (.cells (madeCells #[.bool false] m) 4)).cell? ⟨w.heap.size, j, none⟩ = some (.bool false) := by
  rw [World.cell?_alloc_new]
  have h : (madeCells #[Value.bool false] m).toList[j]? = some (.bool false) := by rw [toList_madeCells_one]; simp [hj]
  simpa using h

theorem run_copy_lines {k1 k2 : Nat} {P : Program} (w : World) (dT sT ty elem : TypeId) (g n bn : Nat) (now : Nat → Int) (hu : P.underlying dT = some (.slice elem)) (hs : (P.info? elem).map (·.size) = some 8)
    (hsrc : ∀ j, j < n * 8 → w.cell? ⟨bn, j, none⟩ = some (u64 (now j))) (hc : ∀ j, j < n * 8 → (w.cell? ⟨g, j, none⟩).isSome = true) (hf : ∀ j, w.frozen? ⟨g, j, none⟩ = false) :
    (Builtin.copy_ #[dT, sT] ty #[rowc g n k1, rowc bn n k2]).run P w = .ok (goInt n) (w.setCells g 0 ((List.range (n * 8)).map fun j => u64 (now j))) := by
  have hlen : ((List.range (n * 8)).map fun j => u64 (now j)).length = n * 8 := by simp
  have hl := run_loadCells_list (P := P) w ⟨bn, 0, none⟩ ((List.range (n * 8)).map fun j => u64 (now j)) (fun j v hv => by
    have hj : j < n * 8 := by have := (List.getElem?_eq_some_iff.1 hv).1; simpa using this
    have hadd : (⟨bn, 0, none⟩ : Addr).add j = ⟨bn, j, none⟩ := by unfold Addr.add; split <;> simp_all
    rw [hadd, hsrc j hj, ← hv]; simp [hj])
  have hst := run_storeCells_cells (P := P) g 0 ((List.range (n * 8)).map fun j => u64 (now j)) 0 w (fun j hj => by rw [hlen] at hj; simpa using hc j hj) (fun j _ => hf _) (fun v hv => by simp at hv; obtain ⟨a, _, rfl⟩ := hv; rfl)
  rw [hlen] at hl
  cases hq : P.info? elem with
  | none => simp [hq] at hs
  | some i =>
    have hi : i.size = 8 := by simpa [hq] using hs
    simp only [Nat.add_zero] at hst
    simp [Builtin.copy_, run_underlying hu, Builtin.lenOf, Builtin.firstCells, sizeOf, typeInfo, hq, hi, hl, hst]

theorem step_copy_lines {k1 k2 : Nat} {P : Program} {ops : Array Oper} {o : Oper} {a : Act} {w : World} {K : Act → World → Prop} {Q : Exit → Act → World → Prop} {E : Prop} (hgd : o.guard = none) (d s : Operand) (dT sT : TypeId)
    (ho : o.op = .call { callee := .builtin .copy, args := #[d, s], argTypes := #[dT, sT] }) (elem : TypeId) (hu : P.underlying dT = some (.slice elem)) (hsz : (P.info? elem).map (·.size) = some 8)
    (g n bn : Nat) (now : Nat → Int) (hd : a.eval d = rowc g n k1) (hs : a.eval s = rowc bn n k2)
    (hsrc : ∀ j, j < n * 8 → w.cell? ⟨bn, j, none⟩ = some (u64 (now j))) (hc : ∀ j, j < n * 8 → (w.cell? ⟨g, j, none⟩).isSome = true) (hf : ∀ j, w.frozen? ⟨g, j, none⟩ = false)
    (h : K (a.put o.dst (goInt n)) (w.setCells g 0 ((List.range (n * 8)).map fun j => u64 (now j)))) :
    if Region.wanted o (yielded ops a.tmps) = true then Oper.wp P o a w K Q else E := by
  have hw : Region.wanted o (yielded ops a.tmps) = true := by simp [Region.wanted, hgd]
  rw [if_pos hw]
  have hrun := run_copy_lines (k1 := k1) (k2 := k2) (P := P) w dT sT o.type elem g n bn now hu hsz hsrc hc hf
  unfold Oper.wp
  simp [execOp, ho, resolve, invoke, builtin, hd, hs, hrun, Result.andThen]
  exact h

theorem copied (w : World) (g n j : Nat) (now : Nat → Int) (hc : ∀ j, j < n * 8 → (w.cell? ⟨g, j, none⟩).isSome = true) (hj : j < n * 8) :
    (w.setCells g 0 ((List.range (n * 8)).map fun j => u64 (now j))).cell? ⟨g, j, none⟩ = some (u64 (now j)) := by
  have := World.cell?_setCells_in g ((List.range (n * 8)).map fun j => u64 (now j)) 0 w (fun i hi => by
    have hi' : i < n * 8 := by simpa using hi
    simpa using hc i hi') j (by simpa using hj)
  simpa using this

/-- The words turned. -/
theorem DevL.renow {w w' : World} {b : Nat} {L : Lay} {A : Ab} (h : DevL w b L A) (now : Nat → Int) (hf : Fr (fun k => k = L.bn) w w')
    (hl : ∀ j, j < A.n * 8 → w'.cell? ⟨L.bn, j, none⟩ = some (u64 (now j))) (hz : ∀ o, w'.frozen? ⟨L.bn, o, none⟩ = false) : DevL w' b L { A with now := now } := by
  have eb : w'.heap[b]? = w.heap[b]? := hf.block _ h.ltb h.bbn
  have el : w'.heap[L.bl]? = w.heap[L.bl]? := hf.block _ h.ltl (Ne.symm h.bnl)
  have ep : w'.heap[L.bp]? = w.heap[L.bp]? := hf.block _ h.ltp (Ne.symm h.bnp)
  have cb : ∀ o, w'.cell? ⟨b, o, none⟩ = w.cell? ⟨b, o, none⟩ := fun o => World.cell?_of_block eb
  have cl : ∀ o, w'.cell? ⟨L.bl, o, none⟩ = w.cell? ⟨L.bl, o, none⟩ := fun o => World.cell?_of_block el
  have cp : ∀ o, w'.cell? ⟨L.bp, o, none⟩ = w.cell? ⟨L.bp, o, none⟩ := fun o => World.cell?_of_block ep
  refine { h with c0 := ?_, c1 := ?_, c2 := ?_, c3 := ?_, c4 := ?_, c5 := ?_, c6 := ?_, zb := ?_, zn := hz, zl := ?_, zp := ?_, now := hl, lasts := ?_, plc := ?_, own := ?_, ltb := ?_, ltn := ?_, ltl := ?_, ltp := ?_ }
  · rw [cb]; exact h.c0
  · rw [cb]; exact h.c1
  · rw [cb]; exact h.c2
  · rw [cb]; exact h.c3
  · rw [cb]; exact h.c4
  · rw [cb]; exact h.c5
  · rw [cb]; exact h.c6
  · intro o; rw [World.frozen?_of_block (a := ⟨b, o, none⟩) eb]; exact h.zb o
  · intro o; rw [World.frozen?_of_block (a := ⟨L.bl, o, none⟩) el]; exact h.zl o
  · intro o; rw [World.frozen?_of_block (a := ⟨L.bp, o, none⟩) ep]; exact h.zp o
  · intro j hj; rw [cl]; exact h.lasts j hj
  · intro j hj; rw [cp]; exact h.plc j hj
  · exact owns_same h.own fun k hk => hf.block k (h.lts k hk) (fun e => h.sn (by rw [hk, e]))
  · exact Nat.lt_of_lt_of_le h.ltb hf.size
  · exact Nat.lt_of_lt_of_le h.ltn hf.size
  · exact Nat.lt_of_lt_of_le h.ltl hf.size
  · exact Nat.lt_of_lt_of_le h.ltp hf.size

/-- The power comes back. -/
def Ab.powered (A : Ab) (flip : Bool) (named : Nat → Bool) : Ab :=
  { A with now := fun j => if named j = flip then A.lasts j else A.now j, lasts := fun j => if named j = flip then A.lasts j else A.now j, way := fun _ => none, fuse := -1, dead := false }

theorem pw_end {now lasts : Nat → Int} {named : Nat → Bool} {flip : Bool} {m : Nat} (j : Nat) (hj : j < m) (q : Nat) (hq : (waitL now lasts m).length ≤ q) :
    pw (waitL now lasts m) named flip now lasts q j = if named j = flip then lasts j else now j := by
  simp only [pw]
  rw [List.take_of_length_le hq]
  by_cases e : now j = lasts j
  · simp [waitL_mem, e]
  · simp [waitL_mem, hj, e]

theorem waiting_ok {w : World} {b : Nat} {L : Lay} {A : Ab} (h : DevL w b L A) :
    Calls Try.prog 48 #[ptr b] w fun e w' => ∃ v, e = .returned v ∧ w'.ownsRow w.heap.size 3 1 v (waitL A.now A.lasts (A.n * 8)).length (natVals (waitL A.now A.lasts (A.n * 8))) ∧ Fr (fun _ => False) w w' :=
  waiting_row b L.bn L.bl A.n A.now A.lasts w h.n8 h.c0 h.c1 h.now h.lasts

/-- A row of numbers, opened: whatever lies there. -/
theorem owns_open {w : World} {base : Nat} {v : Value} {W : List Nat} (h : w.ownsRow base 3 1 v W.length (natVals W)) :
    ∃ va cap, v = .slice va W.length cap ∧ ∀ p, p < W.length → ∃ g, va = some ⟨g, 0, none⟩ ∧ base ≤ g ∧ w.cell? ⟨g, p, none⟩ = some (.int .i64 (W.getD p 0 : Nat)) := by
  rcases h.2 with ⟨hv, hn⟩ | ⟨g, cap, cur, hv, hb, _⟩
  · exact ⟨none, 0, by rw [hv, hn], fun p hp => by omega⟩
  · refine ⟨some ⟨g, 0, none⟩, cap, hv, fun p hp => ⟨g, rfl, hb, ?_⟩⟩
    rw [hv] at h
    rw [h.cellAt p (by omega)]
    simp [natVals, hp]

theorem take_succ_mem {W : List Nat} {q j : Nat} (hq : q < W.length) : j ∈ W.take (q + 1) ↔ j ∈ W.take q ∨ j = W.getD q 0 := by
  rw [List.take_succ_eq_append_getElem hq, List.mem_append, List.mem_singleton, show W.getD q 0 = W[q] from by simp [hq]]

theorem info57 : (Try.prog.info? 71).map (·.size) = some 8 := by kernel_rfl
theorem info4 : (Try.prog.info? 4).map (fun i => (i.zero, i.size, i.bytes)) = some (some (.bool false), 1, 1) := by kernel_rfl
theorem make_bools (n : Nat) (hn : n ≤ 8192) (w : World) : (Instr.makeSlice 68 (.int .i64 ((n : Int) * 8)) (.int .i64 ((n : Int) * 8))).run Try.prog w = .ok (row w.heap.size (n * 8)) (w.alloc (.cells (madeCells #[.bool false] (n * 8)) 4)) := by
  have hi := info4
  obtain ⟨i0, hi0⟩ : ∃ i, Try.prog.info? 4 = some i := by
    cases h : Try.prog.info? 4 with
    | none => rw [h] at hi; simp at hi
    | some i => exact ⟨i, rfl⟩
  rw [hi0] at hi
  simp only [Option.map_some, Option.some.injEq, Prod.mk.injEq] at hi
  have := run_make (P := Try.prog) w 68 4 i0 (.bool false) Try.underlying68 hi0 hi.1 .i64 .i64 ((n : Int) * 8) ((n : Int) * 8) (by omega) (Int.le_refl _) (by rw [hi.2.2]; omega) (by omega)
  rw [this, hi.2.1, show ((n : Int) * 8).toNat = n * 8 from by omega]
  simp [Value.cells]
end Go.Proofs.Ytamghkabclbkgaa
