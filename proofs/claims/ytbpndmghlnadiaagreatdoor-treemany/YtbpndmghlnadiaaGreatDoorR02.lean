/- Joined: NvC. -/
import Derived.BigRegion
import Derived.Test.YtbpndmghlnadiaaGreatDoorR00
import Derived.Test.YtbpndmghlnadiaaGreatDoorR01
namespace Go.Proofs.YtbpndmghlnadiaaGreatDoor
open Go.RowKit
set_option maxHeartbeats 4000000
def nm (zs : Nat -> Int) : Nat -> Nat -> Bool
 | 0, _ => false
 | q + 1, j => if zs q = j then true else nm zs q j
def pw (W : List Nat) (named : Nat -> Bool) (flip : Bool) (now lasts : Nat -> Int) (q j : Nat) : Int := if j ∈ W.take q /\ named j = flip then lasts j else now j
theorem DevL.keptF {w w' : World} {b : Nat} {L : Lay} {A : Ab} (h : DevL w b L A) (hf : Fr (fun _ => False) w w') : DevL w' b L A := h.kept hf fun _ _ h => h
def zeroLines (n : Nat) : Array Value := madeCells (lineCells fun _ => 0).toArray (n * 8)
def zeroInts (n : Nat) : Array Value := madeCells #[.int .i64 0] n
def Ab.fresh (n : Nat) : Ab := { n := n, now := fun _ => 0, lasts := fun _ => 0, way := fun _ => none, steps := 0, fuse := -1, dead := false }
theorem zeroInts_get (n j : Nat) (hj : j < n) : (zeroInts n)[j]? = some (.int .i64 0) := by
 have h : (madeCells #[Value.int .i64 0] n).toList[j]? = some (.int .i64 0) := by rw [toList_madeCells_one]; simp [hj]
 simpa [zeroInts] using h
theorem zeroLines_get (n j : Nat) (hj : j < n * 8) : (zeroLines n)[j]? = some (u64 0) := by
 simp only [zeroLines, madeCells]
 rw [Array.getElem?_eq_getElem (by simpa using hj)]
 simp
 have : j % 8 = 0 \/ j % 8 = 1 \/ j % 8 = 2 \/ j % 8 = 3 \/ j % 8 = 4 \/ j % 8 = 5 \/ j % 8 = 6 \/ j % 8 = 7 := by omega
 rcases this with e | e | e | e | e | e | e | e <;> simp [lineCells, e]
theorem new_dev (w : World) (n b bn bl bp : Nat) (hn : n <= 8192)
  (hb : w.heap[b]? = some (.cells #[row bn n, row bl n, .slice none 0 0, row bp n, .int .i64 0, .int .i64 (-1), .bool false] 167 (0, 0)))
  (hbn : w.heap[bn]? = some (.cells (zeroLines n) 196 (0, 0))) (hbl : w.heap[bl]? = some (.cells (zeroLines n) 196 (0, 0))) (hbp : w.heap[bp]? = some (.cells (zeroInts n) 3 (0, 0)))
  (d1 : b ≠ bn) (d2 : b ≠ bl) (d3 : b ≠ bp) (d4 : bn ≠ bl) (d5 : bn ≠ bp) (d6 : bl ≠ bp) :
  DevL w b { bn := bn, bl := bl, bp := bp, kn := n, kl := n, kp := n, sv := .slice none 0 0, place := fun _ => 0, sent := [] } (Ab.fresh n) := by
 have cb : ∀ o, w.cell? ⟨b, o, none⟩ = _ := fun o => cell_of_row w b o _ _ _ hb
 refine { n8 := hn, c0 := cb 0, c1 := cb 1, c2 := cb 2, c3 := cb 3, c4 := cb 4, c5 := cb 5, c6 := cb 6, zb := fun o => frozen_of_row w b o _ _ hb, zn := fun o => frozen_of_row w bn o _ _ hbn, zl := fun o => frozen_of_row w bl o _ _ hbl, zp := fun o => frozen_of_row w bp o _ _ hbp, now := fun j hj => ?_, lasts := fun j hj => ?_, plc := fun a ha => ?_, own := World.ownsRow_nil _ _ _ _, bbn := d1, bbl := d2, bbp := d3, bnl := d4, bnp := d5, blp := d6, sb := by simp [Value.ownBlock], sn := by simp [Value.ownBlock], sl := by simp [Value.ownBlock], sp := by simp [Value.ownBlock], ltb := (Array.getElem?_eq_some_iff.1 hb).1, ltn := (Array.getElem?_eq_some_iff.1 hbn).1, ltl := (Array.getElem?_eq_some_iff.1 hbl).1, ltp := (Array.getElem?_eq_some_iff.1 hbp).1, sentOk := fun p a l hp => by simp at hp, wayOk := fun a ha => .inl ⟨rfl, rfl⟩, few := by simp [Ab.fresh] }
 ·rw [cell_of_row w bn j _ _ _ hbn, zeroLines_get n j hj]; rfl
 ·rw [cell_of_row w bl j _ _ _ hbl, zeroLines_get n j hj]; rfl
 ·rw [cell_of_row w bp a _ _ _ hbp, zeroInts_get n a ha]; rfl
theorem info57w : (Tryz.prog.info? 196).map (fun i => (i.zero, i.size, i.bytes)) = some (some (.agg (lineCells fun _ => 0).toArray), 8, 64) := by kernel_rfl
theorem make_lines (n : Nat) (hn : n <= 8192) (w : World) : (Instr.makeSlice 164 (.int .i64 (n : Int)) (.int .i64 (n : Int))).run Tryz.prog w = .ok (row w.heap.size n) (w.alloc (.cells (zeroLines n) 196)) := by
 have hi := info57w
 obtain ⟨i0, hi0⟩ : ∃ i, Tryz.prog.info? 196 = some i := by
  cases h : Tryz.prog.info? 196 with
  | none => rw [h] at hi; simp at hi
  | some i => exact ⟨i, rfl⟩
 rw [hi0] at hi
 simp only [Option.map_some, Option.some.injEq, Prod.mk.injEq] at hi
 have := run_make (P := Tryz.prog) w 164 196 i0 _ Tryz.underlying164 hi0 hi.1 .i64 .i64 (n : Int) (n : Int) (by omega) (Int.le_refl _) (by rw [hi.2.2]; omega) (by omega)
 rw [this, hi.2.1, Int.toNat_natCast]
 rfl
theorem make_ints (n : Nat) (hn : n <= 8192) (w : World) : (Instr.makeSlice 45 (.int .i64 (n : Int)) (.int .i64 (n : Int))).run Tryz.prog w = .ok (row w.heap.size n) (w.alloc (.cells (zeroInts n) 3)) := by
 have hi := info3
 obtain ⟨i0, hi0⟩ : ∃ i, Tryz.prog.info? 3 = some i := by
  cases h : Tryz.prog.info? 3 with
  | none => rw [h] at hi; simp at hi
  | some i => exact ⟨i, rfl⟩
 rw [hi0] at hi
 simp only [Option.map_some, Option.some.injEq, Prod.mk.injEq] at hi
 have := run_make (P := Tryz.prog) w 45 3 i0 _ Tryz.underlying45 hi0 hi.1 .i64 .i64 (n : Int) (n : Int) (by omega) (Int.le_refl _) (by rw [hi.2.2]; omega) (by omega)
 rw [this, hi.2.1, Int.toNat_natCast, Nat.mul_one]
 rfl
theorem four (w : World) (O1 O2 O3 O4 : Obj) : (((((w.alloc O1).alloc O2).alloc O3).alloc O4).drew).heap[w.heap.size]? = some O1 /\ (((((w.alloc O1).alloc O2).alloc O3).alloc O4).drew).heap[w.heap.size + 1]? = some O2 /\
  (((((w.alloc O1).alloc O2).alloc O3).alloc O4).drew).heap[w.heap.size + 2]? = some O3 /\ (((((w.alloc O1).alloc O2).alloc O3).alloc O4).drew).heap[w.heap.size + 3]? = some O4 := by
 have s1 : (w.alloc O1).heap.size = w.heap.size + 1 := by simp
 have s2 : ((w.alloc O1).alloc O2).heap.size = w.heap.size + 2 := by simp
 have s3 : (((w.alloc O1).alloc O2).alloc O3).heap.size = w.heap.size + 3 := by simp
 refine ⟨?_, ?_, ?_, ?_⟩
 ·show ((((w.alloc O1).alloc O2).alloc O3).alloc O4).heap[w.heap.size]? = _
  rw [Below.heap_alloc _ _ _ (by omega), Below.heap_alloc _ _ _ (by omega), Below.heap_alloc _ _ _ (by omega)]; exact heap_alloc_new w O1
 ·show ((((w.alloc O1).alloc O2).alloc O3).alloc O4).heap[w.heap.size + 1]? = _
  rw [Below.heap_alloc _ _ _ (by omega), Below.heap_alloc _ _ _ (by omega), <- s1]; exact heap_alloc_new _ O2
 ·show ((((w.alloc O1).alloc O2).alloc O3).alloc O4).heap[w.heap.size + 2]? = _
  rw [Below.heap_alloc _ _ _ (by omega), <- s2]; exact heap_alloc_new _ O3
 ·show ((((w.alloc O1).alloc O2).alloc O3).alloc O4).heap[w.heap.size + 3]? = _
  rw [<- s3]; exact heap_alloc_new _ O4
theorem new_close (w : World) (n : Nat) (hn : n <= 8192) (O1 O2 O3 : Obj) (bn bl bp : Nat)
  (h1 : bn = w.heap.size /\ O1 = .cells (zeroLines n) 196 \/ bn = w.heap.size + 1 /\ O2 = .cells (zeroLines n) 196 \/ bn = w.heap.size + 1 + 1 /\ O3 = .cells (zeroLines n) 196)
  (h2 : bl = w.heap.size /\ O1 = .cells (zeroLines n) 196 \/ bl = w.heap.size + 1 /\ O2 = .cells (zeroLines n) 196 \/ bl = w.heap.size + 1 + 1 /\ O3 = .cells (zeroLines n) 196)
  (h3 : bp = w.heap.size /\ O1 = .cells (zeroInts n) 3 \/ bp = w.heap.size + 1 /\ O2 = .cells (zeroInts n) 3 \/ bp = w.heap.size + 1 + 1 /\ O3 = .cells (zeroInts n) 3)
  (d4 : bn ≠ bl) (d5 : bn ≠ bp) (d6 : bl ≠ bp) :
  ∃ L, DevL ((((w.alloc O1).alloc O2).alloc O3).alloc (.cells #[row bn n, row bl n, .slice none 0 0, row bp n, .int .i64 0, .int .i64 (-1), .bool false] 167)).drew (w.heap.size + 3) L (Ab.fresh n) /\
   Fr (fun _ => False) w ((((w.alloc O1).alloc O2).alloc O3).alloc (.cells #[row bn n, row bl n, .slice none 0 0, row bp n, .int .i64 0, .int .i64 (-1), .bool false] 167)).drew /\ ∀ k, foot (w.heap.size + 3) L k -> w.heap.size <= k := by
 obtain ⟨f1, f2, f3, f4⟩ := four w O1 O2 O3 (.cells #[row bn n, row bl n, .slice none 0 0, row bp n, .int .i64 0, .int .i64 (-1), .bool false] 167)
 refine ⟨_, new_dev _ n (w.heap.size + 3) bn bl bp hn f4 ?_ ?_ ?_ (by omega) (by omega) (by omega) d4 d5 d6, (((((Fr.refl _ w).alloc _).alloc _).alloc _).alloc _).drew, ?_⟩
 ·rcases h1 with ⟨rfl, e⟩ | ⟨rfl, e⟩ | ⟨rfl, e⟩
  ·rw [f1, e]
  ·rw [f2, e]
  ·rw [f3, e]
 ·rcases h2 with ⟨rfl, e⟩ | ⟨rfl, e⟩ | ⟨rfl, e⟩
  ·rw [f1, e]
  ·rw [f2, e]
  ·rw [f3, e]
 ·rcases h3 with ⟨rfl, e⟩ | ⟨rfl, e⟩ | ⟨rfl, e⟩
  ·rw [f1, e]
  ·rw [f2, e]
  ·rw [f3, e]
 ·rintro k (hk | hk | hk | hk | hk)
  ·omega
  ·simp at hk; omega
  ·simp at hk; omega
  ·simp at hk; omega
  ·simp [Value.ownBlock] at hk
def NewOk (n : Nat) (w : World) (e : Ending) (w' : World) : Prop :=
 e = .returned (.tuple #[ptr (w.heap.size + 3), .int .i64 0]) /\ ∃ L, DevL w' (w.heap.size + 3) L (Ab.fresh n) /\ Fr (fun _ => False) w w' /\ ∀ k, foot (w.heap.size + 3) L k -> w.heap.size <= k
end Go.Proofs.YtbpndmghlnadiaaGreatDoor
