/- The law's own done: an array of 256 words by value. -/
import Derived.Test.YtockkjkaopihjaaWri
import Derived.Great.Ranges
import Derived.Great.Walk
import Derived.Laws.Rows
import Derived.Laws.Tables
namespace Go.Proofs.Ytockkjkaopihjaa
open Go.RowKit

theorem arr_size (n : Nat) (f : Nat → Int) : (arr n f).size = n := by simp [arr]
theorem arr_one (n : Nat) (f : Nat → Int) : (arr n f).all (·.oneCell') = true := by
  rw [Array.all_eq_true]
  intro i hi
  simp [arr]; rfl
theorem info_arr (f : Nat → Int) : (Try.prog.info? 43).map (·.size) = some (arr 256 f).size := by
  rw [arr_size]; kernel_rfl
theorem alloc_arr (w : World) : (Instr.alloc 43 true (.tuple #[])).run Try.prog w = .ok (.pointer (some ⟨w.heap.size, 0, none⟩)) (w.alloc (.cells (arr 256 fun _ => 0) 43)) := by kernel_rfl

theorem zero_arr : Try.zeroCells43 = arr 256 fun _ => 0 := by kernel_rfl

theorem Fr.setRow (w : World) (g : Nat) (cs : Array Value) : Fr (fun r => r = g) w (w.setRow g cs) :=
  ⟨rfl, rfl, rfl, by simp [World.setRow], fun k _ hk => setRow_other w g k cs hk⟩

/-- A block that holds 256 words. -/
def ArrAt (w : World) (g : Nat) (f : Nat → Int) : Prop := w.heap[g]? = some (.cells (arr 256 f) 43 (0, 0))
section
variable {w w' : World} {g : Nat} {f : Nat → Int}
theorem ArrAt.lt (h : ArrAt w g f) : g < w.heap.size := by
  unfold ArrAt at h
  exact (Array.getElem?_eq_some_iff.1 h).1
theorem ArrAt.kept (h : ArrAt w g f) {F : Nat → Prop} (hf : Fr F w w') (n : ¬ F g) : ArrAt w' g f := (hf.block g h.lt n).trans h
theorem ArrAt.set (h : ArrAt w g f) (i : Nat) (v : Int) : ArrAt (w.setCell ⟨g, i, none⟩ (u64 v)) g (upd f i v) := by
  have := heap_setCell_same w g i _ _ (u64 v) h
  rw [arr_set] at this; exact this
theorem ArrAt.cell (h : ArrAt w g f) (j : Nat) (hj : j < 256) : w.cell? ⟨g, j, none⟩ = some (u64 (f j)) := by
  rw [cell_of_row _ _ _ _ _ _ h, arr_get _ _ _ hj]
theorem ArrAt.frozen (h : ArrAt w g f) (j : Nat) : w.frozen? ⟨g, j, none⟩ = false := by
  unfold ArrAt at h; unfold World.frozen?; rw [h]; simp
theorem ArrAt.new (w : World) (f : Nat → Int) : ArrAt (w.alloc (.cells (arr 256 f) 43)) w.heap.size f := heap_alloc_new w _
end

theorem homed_more (xs : List (Int × Int)) (k : Nat) (x : Int × Int) (hx : xs[k]? = some x) (j : Nat) (hj : x.1 = j) (f : Nat → Int) : upd (homed (xs.take k).reverse f) j x.2 = homed (xs.take (k + 1)).reverse f := by
  rw [List.take_add_one, hx]
  simp only [Option.toList_some, List.reverse_append, List.reverse_cons, List.reverse_nil, List.nil_append, List.singleton_append]
  funext i
  unfold homed
  simp only [List.find?_cons]
  by_cases e : i = j
  · subst e; rw [upd_same]; simp [hj]
  · rw [upd_other _ _ e]
    have : (x.1 == (i : Int)) = false := by simp; omega
    rw [this]

set_option maxRecDepth 100000 in
set_option maxHeartbeats 2000000 in
theorem done_ok (w : World) (f : Nat → Int) (a : Option Addr) (cap : Nat) (xs : List (Int × Int)) (hlen : xs.length ≤ 24) (out : ∀ x ∈ xs, 64 ≤ x.1 ∧ x.1 ≤ 255)
    (hx : ∀ k, k < xs.length → ∃ xb xo, a = some ⟨xb, xo, none⟩ ∧ WrAt w xb xo xs) :
    Calls Try.prog 23 #[.agg (arr 256 f), .slice a xs.length cap] w fun e w' => e = .returned (.agg (arr 256 (homed xs.reverse f))) ∧ Fr (fun _ => False) w w' := by
  have HX := hide hx; have HO := hide out
  clear hx out
  have HA := alloc_arr
  go_enter Try.func23, Try.ntmps23
  go_wp2_with (first | (refine Great.wpList_boxTo rfl 43 _ rfl _ rfl _ rfl (arr 256 f) rfl ?_) | (refine Great.wpList_allocTo rfl _ rfl _ _ (alloc_arr _) ?_))
  clear HA
  go_loopw [5] (fun i wr => ∃ k : Nat, k ≤ xs.length ∧ i = .int .i64 k ∧ ArrAt wr w.heap.size (homed (xs.take k).reverse f) ∧ ArrAt wr (w.heap.size + 1) (fun _ => 0) ∧ Fr (fun _ => False) w wr) (fun i wr => 24 - (intOf i).toNat)
  case atStart =>
    refine ⟨0, Nat.zero_le _, rfl, ?_, ?_, ((Fr.refl _ w).alloc _).alloc _⟩
    · exact (ArrAt.new w f).kept ((Fr.refl (fun _ => False) _).alloc _) (fun h => h)
    · have := ArrAt.new (w.alloc (.cells (arr 256 f) 43)) (fun _ => 0)
      rw [zero_arr]
      simpa using this
  case round =>
    obtain ⟨k, hk, rfl, h0, h1, hf⟩ := hrel
    by_cases hlt : k < xs.length
    · obtain ⟨xb, xo, rfl, hxs⟩ := unhide HX k hlt
      obtain ⟨x, hxk⟩ : ∃ x, xs[k]? = some x := ⟨_, List.getElem?_eq_getElem hlt⟩
      obtain ⟨x1, x2⟩ := x
      obtain ⟨c1, c2⟩ := hxs k _ hxk
      obtain ⟨o1, o2⟩ := unhide HO _ (List.mem_of_getElem? hxk)
      obtain ⟨j, rfl⟩ : ∃ j : Nat, x1 = j := ⟨x1.toNat, by simp only [] at o1; omega⟩
      simp only [] at c1 c2 o1 o2
      have d1 := hf.cell' c1 (fun h => h)
      have d2 := hf.cell' c2 (fun h => h)
      have q0 := h0.cell j (by omega)
      have z0 := h0.frozen j
      have S : ∀ n, ArrAt ((wr.drewN n).setCell ⟨w.heap.size, j, none⟩ (u64 x2)) w.heap.size (homed (xs.take (k + 1)).reverse f) := fun n => by
        rw [← homed_more xs k _ hxk j rfl]
        exact (h0.kept ((Fr.refl (fun _ => False) wr).drewN n) (fun h => h)).set j x2
      have HS := hide (And.intro h0 (And.intro h1 hf)); have HSS := hide S
      clear h0 h1 hf S c1 c2 hxs
      go_wp2_with fail
      refine region_tailP 11 (by kernel_rfl) (by kernel_rfl) ?_
      simp only [List.take_succ_cons, List.take_zero, List.drop_succ_cons, List.drop_zero]
      repeat (go_big_quiet_step (fail))
      refine wpQuiet_nil ?_
      rintro _ ⟨nq, rfl⟩
      go_wp2
      obtain ⟨h0, h1, hf⟩ := unhide HS
      have ff : Fr (fun r => r = w.heap.size) wr ((wr.drewN nq).setCell ⟨w.heap.size, j, none⟩ (u64 x2)) := ((Fr.refl (fun r => r = w.heap.size) wr).drewN nq).setCell (.inl rfl) _
      exact ⟨⟨k + 1, hlt, by go_num, unhide HSS nq, h1.kept ff (by omega), hf.trans' ff (fun r hr => .inr (by omega))⟩, by simp [intOf]; omega⟩
    · have hke : k = xs.length := by omega
      subst hke
      rw [List.take_length] at h0
      have h0' : wr.heap[w.heap.size]? = some (.cells (arr 256 (homed xs.reverse f)) 43 (0, 0)) := h0
      have h1' : wr.heap[w.heap.size + 1]? = some (.cells (arr 256 fun _ => 0) 43 (0, 0)) := h1
      have HF := hide hf
      clear h0 h1 hf
      go_wp2_with (first | (refine wpList_load_row rfl 43 _ rfl w.heap.size rfl 43 (arr 256 (homed xs.reverse f)) (0, 0) _ h0' Try.underlying43 rfl (info_arr _) ?_) | (refine wpList_store_row rfl 43 _ _ rfl (w.heap.size + 1) (arr 256 (homed xs.reverse f)) rfl rfl 43 (arr 256 fun _ => 0) h1' (info_arr _) (by rw [arr_size, arr_size]) (arr_one _ _) ?_))
      refine ⟨rfl, _, results_cell_row Try.results23 _ _ (w.heap.size + 1) 43 (arr 256 (homed xs.reverse f)) (0, 0) _ rfl (setRow_heap _ _ _ _ _ _ h1') Try.underlying43 rfl (info_arr _), rfl, ?_⟩
      exact (unhide HF).trans' (Fr.setRow _ _ _) (fun r hr => .inr (by omega))
end Go.Proofs.Ytockkjkaopihjaa
