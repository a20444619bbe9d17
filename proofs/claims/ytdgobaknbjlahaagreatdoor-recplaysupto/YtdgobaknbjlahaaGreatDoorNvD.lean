/- Told, tell; rows that come in. -/
import Derived.Test.YtdgobaknbjlahaaGreatDoorNvA
import Derived.Defers
import Derived.Recover
import Derived.Test.YtdgobaknbjlahaaGreatDoorNvC
import Derived.Test.YtdgobaknbjlahaaGreatDoorNvB
import Derived.Laws.Bits64b
namespace Go.Proofs.YtdgobaknbjlahaaGreatDoor
open Go.RowKit

theorem tmps_told (x y v : Value) : (#[x, y] ++ (Array.replicate 16 undef).setIfInBounds 4 v) = #[x, y, undef, undef, undef, undef, v, undef, undef, undef, undef, undef, undef, undef, undef, undef, undef, undef] := by kernel_rfl

theorem ta53 (w : World) : (Instr.typeAssert (.iface 95 (.agg #[])) 20 95 true).run Tryz.prog w = .ok (.tuple #[.agg #[], .bool true]) w := by kernel_rfl
theorem ta53no (i : Int) (w : World) : (Instr.typeAssert (.iface 143 (.agg #[.int .i64 i])) 20 95 true).run Tryz.prog w = .ok (.tuple #[.agg #[], .bool false]) w := by kernel_rfl
theorem ta55 (i : Int) (w : World) : (Instr.typeAssert (.iface 143 (.agg #[.int .i64 i])) 20 143 true).run Tryz.prog w = .ok (.tuple #[.agg #[.int .i64 i], .bool true]) w := by kernel_rfl

/-- Function g has a body: a call of it enters it. -/
def Enters (g : Nat) : Prop := ∀ (args : Array Value) (w : World), (callFunc g args).run Tryz.prog w = .ok (.enter g args) w

/-- The two boxes that Told lays ahead of the call. -/
abbrev boxed (w : World) (word : Int) : World := (w.alloc (.cells #[.int .i64 word] 3)).alloc (.cells #[.int .i64 0] 3)
theorem boxed_fr (w : World) (word : Int) : Fr (fun _ => False) w (boxed w word) := ((Fr.refl _ w).alloc _).alloc _
theorem boxed_size (w : World) (word : Int) : (boxed w word).heap.size = w.heap.size + 2 := by simp [boxed]
theorem boxed_how (w : World) (word : Int) : (boxed w word).heap[w.heap.size + 1]? = some (.cells #[.int .i64 0] 3) := by
  have := heap_alloc_new (w.alloc (.cells #[.int .i64 word] 3)) (.cells #[.int .i64 0] 3); simpa [boxed] using this
theorem boxed_word (w : World) (word : Int) : (boxed w word).heap[w.heap.size]? = some (.cells #[.int .i64 word] 3) := by
  rw [boxed, Below.heap_alloc _ _ _ (by simp)]; exact heap_alloc_new w _

section
variable {word : Int} {g : Nat} {first cap : Array Value} {w : World} {F : Nat → Prop} {R : World → Prop}

end

/-- In w, which came out of w0, device b is A; its blocks are of F or new since w0; the blocks of G hold what G says; no other old block has turned. -/
structure At (w0 : World) (b : Nat) (F : Nat → Prop) (G : Nat → Option Obj) (w : World) (A : Ab) : Prop where
  ex : ∃ L, DevL w b L A ∧ ∀ k, foot b L k → F k ∨ w0.heap.size ≤ k
  fr : Fr (fun k => F k ∨ (G k).isSome = true) w0 w
  gs : ∀ k o, G k = some o → w.heap[k]? = some o ∧ ¬ F k ∧ k < w0.heap.size

abbrev noG : Nat → Option Obj := fun _ => none

section
variable {w0 w : World} {b : Nat} {F : Nat → Prop} {G : Nat → Option Obj} {A : Ab}

theorem At.start {L : Lay} (h : DevL w b L A) (G : Nat → Option Obj) (hG : ∀ k o, G k = some o → w.heap[k]? = some o ∧ ¬ foot b L k) : At w b (foot b L) G w A :=
  ⟨⟨L, h, fun _ => .inl⟩, Fr.refl _ _, fun k o e => ⟨(hG k o e).1, (hG k o e).2, (Array.getElem?_eq_some_iff.1 (hG k o e).1).1⟩⟩

theorem At.cell (h : At w0 b F G w A) {p : Addr} {v : Value} (hv : w0.cell? p = some v) (hF : ¬ F p.block) (hG : G p.block = none) : w.cell? p = some v :=
  h.fr.cell' hv (fun e => e.elim hF (by rw [hG]; simp))

theorem At.gcell (h : At w0 b F G w A) {k : Nat} {cs : Array Value} {t : TypeId} {fr : Nat × Nat} (hk : G k = some (.cells cs t fr)) (i : Nat) : w.cell? ⟨k, i, none⟩ = cs[i]? :=
  cell_of_row w k i cs t fr (h.gs k _ hk).1
theorem At.gfrozen (h : At w0 b F G w A) {k : Nat} {cs : Array Value} {t : TypeId} (hk : G k = some (.cells cs t (0, 0))) (i : Nat) : w.frozen? ⟨k, i, none⟩ = false :=
  frozen_of_row w k i cs t (h.gs k _ hk).1

theorem At.hf (h : At w0 b F G w A) {L : Lay} (hL : ∀ k, foot b L k → F k ∨ w0.heap.size ≤ k) {k : Nat} {o : Obj} (hk : G k = some o) : ¬ foot b L k := fun hf => by
  obtain ⟨_, n, l⟩ := h.gs k o hk
  rcases hL k hf with e | e
  · exact n e
  · omega

/-- A step of the device's own. -/
theorem At.step (h : At w0 b F G w A) {w' : World} {L L' : Lay} {A' : Ab} (hL : ∀ k, foot b L k → F k ∨ w0.heap.size ≤ k) (d' : DevL w' b L' A') (f' : Fr (foot b L) w w') (s' : ∀ k, foot b L' k → foot b L k ∨ w.heap.size ≤ k) : At w0 b F G w' A' := by
  refine ⟨⟨L', d', fun k hk => ?_⟩, h.fr.trans' f' (fun k hk => (hL k hk).elim (fun e => .inl (.inl e)) .inr), fun k o e => ?_⟩
  · rcases s' k hk with e | e
    · exact hL k e
    · exact .inr (Nat.le_trans h.fr.size e)
  · obtain ⟨g1, g2, g3⟩ := h.gs k o e
    exact ⟨(f'.block k (Nat.lt_of_lt_of_le g3 h.fr.size) (h.hf hL e)).trans g1, g2, g3⟩

/-- Nothing that was there turns. -/
theorem At.more (h : At w0 b F G w A) {w' : World} (hf : Fr (fun _ => False) w w') : At w0 b F G w' A := by
  obtain ⟨L, d, hL⟩ := h.ex
  exact ⟨⟨L, d.keptF hf, hL⟩, h.fr.trans' hf (fun k hk => hk.elim), fun k o e => by
    obtain ⟨g1, g2, g3⟩ := h.gs k o e
    exact ⟨(hf.block k (Nat.lt_of_lt_of_le g3 h.fr.size) (fun x => x)).trans g1, g2, g3⟩⟩

theorem At.alloc (h : At w0 b F G w A) (o : Obj) : At w0 b F G (w.alloc o) A := h.more ((Fr.refl _ w).alloc o)
theorem At.drew (h : At w0 b F G w A) : At w0 b F G w.drew A := h.more ((Fr.refl _ w).drew)
theorem At.drewN (h : At w0 b F G w A) (n : Nat) : At w0 b F G (w.drewN n) A := h.more ((Fr.refl _ w).drewN n)

/-- A cell of another's block is stored. -/
theorem At.setCell (h : At w0 b F G w A) {k : Nat} {cs : Array Value} {t : TypeId} (hk : G k = some (.cells cs t (0, 0))) (i : Nat) (v : Value) :
    At w0 b F (upd G k (some (.cells (cs.setIfInBounds i v) t (0, 0)))) (w.setCell ⟨k, i, none⟩ v) A := by
  obtain ⟨L, d, hL⟩ := h.ex
  have hf : Fr (fun j => j = k) w (w.setCell ⟨k, i, none⟩ v) := (Fr.refl (fun j => j = k) w).setCell (.inl rfl) v
  obtain ⟨g1, g2, g3⟩ := h.gs k _ hk
  refine ⟨⟨L, d.kept hf (fun j hj e => h.hf hL hk (by rw [← e]; exact hj)), hL⟩, ?_, fun j o e => ?_⟩
  · refine (h.fr.mono (G := fun j => F j ∨ (upd G k (some (Obj.cells (cs.setIfInBounds i v) t (0, 0))) j).isSome = true) (fun j hj => .inl ?_)).trans' hf (fun j hj => .inl (.inr (by subst hj; rw [upd_same]; rfl)))
    rcases hj with e | e
    · exact .inl e
    · refine .inr ?_
      by_cases ej : j = k
      · subst ej; rw [upd_same]; rfl
      · rw [upd_other _ _ ej]; exact e
  · by_cases ej : j = k
    · subst ej
      rw [upd_same] at e
      cases e
      exact ⟨heap_setCell_same w j i cs t v g1, g2, g3⟩
    · rw [upd_other _ _ ej] at e
      obtain ⟨q1, q2, q3⟩ := h.gs j o e
      exact ⟨(Below.heap_setCell _ _ _ _ ej).trans q1, q2, q3⟩

/-- From here on. -/
theorem At.rebase (h : At w0 b F G w A) (G' : Nat → Option Obj) (hG : ∀ k o, G' k = some o → w.heap[k]? = some o ∧ k < w0.heap.size ∧ ¬ F k) :
    ∃ F', At w b F' G' w A ∧ (∀ k, F' k → k < w.heap.size) ∧ ∀ k, F' k → F k ∨ w0.heap.size ≤ k := by
  obtain ⟨L, d, hL⟩ := h.ex
  refine ⟨foot b L, At.start d G' (fun k o e => ⟨(hG k o e).1, fun hf => ?_⟩), d.lt, hL⟩
  obtain ⟨_, l, n⟩ := hG k o e
  rcases hL k hf with e | e
  · exact n e
  · omega

theorem at_store (h : At w0 b F G w A) (lv : Live A) (j : Nat) (hj : j < A.n * 8) (v : Int) :
    Calls Tryz.prog 110 #[ptr b, .int .i64 j, u64 v] w fun e w' => e = .returned (.tuple #[]) ∧ At w0 b F G w' (A.tick.store j v) := by
  obtain ⟨L, d, hL⟩ := h.ex
  refine (store_ok d lv j hj v).mono ?_
  rintro e w' ⟨rfl, d', f'⟩
  exact ⟨rfl, h.step hL d' f' (fun _ => .inl)⟩

theorem at_load (h : At w0 b F G w A) (hd : A.dead = false) (j : Nat) (hj : j < A.n * 8) :
    Calls Tryz.prog 69 #[ptr b, .int .i64 j] w fun e w' => e = .returned (u64 (A.now j)) ∧ w' = w := by
  obtain ⟨L, d, hL⟩ := h.ex
  exact load_ok d hd j hj

theorem at_flush (h : At w0 b F G w A) (lv : Live A) (hs1 : A.steps + 1 < 4294967296) (j : Nat) (hj : j < A.n * 8) :
    Calls Tryz.prog 112 #[ptr b, .int .i64 j] w fun e w' => e = .returned (.tuple #[]) ∧ At w0 b F G w' (A.tick.sendLine (j / 8)) := by
  obtain ⟨L, d, hL⟩ := h.ex
  refine (flush_ok d lv hs1 j hj).mono ?_
  rintro e w' ⟨rfl, L', d', f', s'⟩
  exact ⟨rfl, h.step hL d' f' s'⟩

theorem at_fence (h : At w0 b F G w A) (lv : Live A) (hs1 : A.steps + 1 < 4294967296) :
    Calls Tryz.prog 113 #[ptr b] w fun e w' => e = .returned (.tuple #[]) ∧ At w0 b F G w' A.tick.fenced := by
  obtain ⟨L, d, hL⟩ := h.ex
  refine (fence_ok d lv hs1).mono ?_
  rintro e w' ⟨rfl, L', d', f', s'⟩
  exact ⟨rfl, h.step hL d' f' (fun k hk => .inl (s' k hk))⟩

theorem at_words (h : At w0 b F G w A) : Calls Tryz.prog 80 #[ptr b] w fun e w' => e = .returned (.int .i64 (A.n * 8)) ∧ w' = w := by
  obtain ⟨L, d, hL⟩ := h.ex
  exact words_any b L.bn A.n w d.n8 d.c0

theorem at_wrong (h : At w0 b F G w A) (i : Int) (hi : i < 0 ∨ A.n * 8 ≤ i) : Calls Tryz.prog 69 #[ptr b, .int .i64 i] w fun e w' => e = .panicked (wrong i) ∧ w' = w := by
  obtain ⟨L, d, hL⟩ := h.ex
  exact load_wrong d i hi
end

theorem enters14 : Enters 113 := fun _ _ => by kernel_rfl
section
variable {V : World} {b : Nat} {L : Lay} {A A' : Ab} {G G' : Nat → Option Obj} {g : Nat} {first cap : Array Value} {word : Int}

theorem tell_start (d : DevL V b L A) (hG : ∀ k o, G k = some o → V.heap[k]? = some o ∧ ¬ foot b L k) : At (boxed V word) b (foot b L) G (boxed V word) A :=
  At.start (d.keptF (boxed_fr V word)) G (fun k o e => ⟨((boxed_fr V word).block k (Array.getElem?_eq_some_iff.1 (hG k o e).1).1 (fun h => h)).trans (hG k o e).1, (hG k o e).2⟩)

/-- What a world holds behind the call, but for the two boxes. -/
def Has (V : World) (b : Nat) (L : Lay) (P : Ab → (Nat → Option Obj) → Prop) (w' : World) : Prop :=
  ∃ A' G', P A' G' ∧ (∃ L', DevL w' b L' A' ∧ ∀ k, foot b L' k → foot b L k ∨ V.heap.size + 2 ≤ k) ∧ ∀ k o, G' k = some o → w'.heap[k]? = some o ∧ ¬ foot b L k ∧ k < V.heap.size

theorem tell_stays (d : DevL V b L A) (P : Ab → (Nat → Option Obj) → Prop) (w1 w' : World) (h : Has V b L P w1) (hs : V.heap.size + 2 ≤ w1.heap.size) (hf : Fr (fun k => k = V.heap.size + 1) w1 w') : Has V b L P w' := by
  obtain ⟨A', G', hP, ⟨L', d', hL⟩, gs⟩ := h
  refine ⟨A', G', hP, ⟨L', d'.kept hf (fun k hk e => ?_), hL⟩, fun k o e => ?_⟩
  · rcases hL k hk with x | x
    · have := d.lt k x; omega
    · omega
  · obtain ⟨g1, g2, g3⟩ := gs k o e
    exact ⟨(hf.block k (by omega) (by omega)).trans g1, g2, g3⟩

/-- What the closure is asked for. -/
def Runs (V : World) (b : Nat) (L : Lay) (P : Ab → (Nat → Option Obj) → Prop) (word : Int) (w' : World) : Prop :=
  ∃ A' G', P A' G' ∧ At (boxed V word) b (foot b L) G' w' A'
/-- What Told gives. -/
def Gives (V : World) (b : Nat) (L : Lay) (P : Ab → (Nat → Option Obj) → Prop) (w' : World) : Prop :=
  ∃ A' G', P A' G' ∧ At V b (foot b L) G' w' A'

theorem runs_has (P : Ab → (Nat → Option Obj) → Prop) (hG : ∀ k o, G k = some o → V.heap[k]? = some o ∧ ¬ foot b L k) (hP : ∀ A' G', P A' G' → ∀ k, (G' k).isSome = true → (G k).isSome = true) {w' : World} (h : Runs V b L P word w') :
    Has V b L P w' ∧ Fr (fun k => foot b L k ∨ (G k).isSome = true) (boxed V word) w' := by
  obtain ⟨A', G', p, a⟩ := h
  have hlt : ∀ k, (G k).isSome = true → k < V.heap.size := fun k hk => by
    obtain ⟨o, ho⟩ := Option.isSome_iff_exists.1 hk
    exact (Array.getElem?_eq_some_iff.1 (hG k o ho).1).1
  refine ⟨⟨A', G', p, ?_, fun k o e => ?_⟩, a.fr.mono (fun k hk => .inl (hk.elim .inl (fun x => .inr (hP A' G' p k x))))⟩
  · obtain ⟨L', d', hL⟩ := a.ex
    rw [boxed_size] at hL
    exact ⟨L', d', hL⟩
  · obtain ⟨g1, g2, _⟩ := a.gs k o e
    exact ⟨g1, g2, hlt k (hP A' G' p k (by rw [e]; rfl))⟩

theorem has_gives (P : Ab → (Nat → Option Obj) → Prop) (_hG : ∀ k o, G k = some o → V.heap[k]? = some o ∧ ¬ foot b L k) (hD : ∀ A' G', P A' G' → ∀ k, (G k).isSome = true → (G' k).isSome = true) {w' : World} (h : Has V b L P w')
    (hf : Fr (fun k => foot b L k ∨ (G k).isSome = true) V w') : Gives V b L P w' := by
  obtain ⟨A', G', p, ⟨L', d', hL⟩, gs⟩ := h
  exact ⟨A', G', p, ⟨⟨L', d', fun k hk => (hL k hk).elim .inl (fun x => .inr (by omega))⟩, hf.mono (fun k hk => .inl (hk.elim .inl (fun x => .inr (hD A' G' p k x)))), gs⟩⟩

theorem tell_lt (d : DevL V b L A) (hG : ∀ k o, G k = some o → V.heap[k]? = some o ∧ ¬ foot b L k) : ∀ k, (foot b L k ∨ (G k).isSome = true) → k < V.heap.size := fun k hk => by
  rcases hk with hk | hk
  · exact d.lt k hk
  · obtain ⟨o, ho⟩ := Option.isSome_iff_exists.1 hk
    exact (Array.getElem?_eq_some_iff.1 (hG k o ho).1).1

end

def msk (z : Int) (m : Nat) : Nat := (BitVec.ofInt 64 z).toNat &&& m

theorem mask_i64 (z : Int) (m : Nat) (hm : m < 4294967296) : bits .and .i64 z (m : Int) = (msk z m : Int) := by
  have hle : (BitVec.ofInt 64 z).toNat &&& m ≤ m := Nat.and_le_right
  have h2 : (BitVec.ofInt 64 (m : Int)).toNat = m := by
    rw [BitVec.ofInt_natCast, BitVec.toNat_ofNat]; exact Nat.mod_eq_of_lt (by omega)
  show IntKind.i64.wrap ((BitVec.ofInt 64 z &&& BitVec.ofInt 64 (m : Int)).toNat : Int) = _
  rw [BitVec.toNat_and, h2, IntKind.wrap_i64]
  simp only [msk]
  omega
theorem msk_le (z : Int) (m : Nat) : msk z m ≤ m := Nat.and_le_right
theorem mask63 (z : Int) : bits .and .i64 z 63 = (msk z 63 : Int) := mask_i64 z 63 (by omega)
theorem mask31 (z : Int) : bits .and .i64 z 31 = (msk z 31 : Int) := mask_i64 z 31 (by omega)

theorem wrap_small (x : Int) (h0 : 0 ≤ x) (h : x < 4294967296) : IntKind.i64.wrap x = x ∧ IntKind.u64.wrap x = x := by
  rw [IntKind.wrap_i64, IntKind.wrap_u64]; omega

/-- An array of n words. -/
def arr (n : Nat) (f : Nat → Int) : Array Value := ((List.range n).map fun j => u64 (f j)).toArray
theorem arr_get (n : Nat) (f : Nat → Int) (j : Nat) (hj : j < n) : (arr n f)[j]? = some (u64 (f j)) := by simp [arr, hj]
theorem arr_set (n : Nat) (f : Nat → Int) (i : Nat) (v : Int) : (arr n f).setIfInBounds i (u64 v) = arr n (upd f i v) := by
  apply Array.ext
  · simp [arr]
  · intro j h1 h2
    simp [arr] at h1
    simp only [arr, upd]
    by_cases e : j = i
    · subst e; simp
    · rw [Array.getElem_setIfInBounds_ne (by simpa [arr] using h1) (fun x => e x.symm)]; simp [e]



/-- A slice of numbers that came in: its first 'len' numbers. -/
def Nums (w : World) (a : Option Addr) (len : Nat) (zs : Nat → Int) : Prop := ∀ k, k < len → ∃ xb xo, a = some ⟨xb, xo, none⟩ ∧ w.cell? ⟨xb, xo + k, none⟩ = some (.int .i64 (zs k))

/-- It is nil; or it leads to a row of 'cap' cells, the numbers 'zs'. -/
def IsRow (k : IntKind) (w : World) (a : Option Addr) (len cap : Nat) (zs : List Int) : Prop :=
  (a = none ∧ len = 0 ∧ cap = 0 ∧ zs = []) ∨
  ∃ x, a = some x ∧ len ≤ cap ∧ cap ≤ maxLen ∧ zs.length = cap ∧ (∀ i, i < zs.length → w.cell? (x.add i) = some (.int k (zs.getD i 0))) ∧ ∀ n ∈ zs, (Lit.int k n).wf = true

theorem IsRow.nums {w : World} {a : Option Addr} {len cap : Nat} {zs : List Int} (h : IsRow .i64 w a len cap zs) : Nums w a len (fun k => zs.getD k 0) ∧ len ≤ maxLen := by
  rcases h with ⟨_, rfl, _, _⟩ | ⟨x, rfl, hl, hm, hz, hc, _⟩
  · exact ⟨fun k hk => by omega, Nat.zero_le _⟩
  · refine ⟨fun k hk => ?_, Nat.le_trans hl hm⟩
    have c := hc k (by omega)
    obtain ⟨xb, xo, sp⟩ := x
    cases sp with
    | none =>
      refine ⟨xb, xo, rfl, ?_⟩
      have hadd : (⟨xb, xo, none⟩ : Addr).add k = ⟨xb, xo + k, none⟩ := by unfold Addr.add; split <;> simp_all
      rw [hadd] at c; exact c
    | some q =>
      exfalso
      have c0 := hc 0 (by omega)
      have hadd : (⟨xb, xo, some q⟩ : Addr).add 0 = ⟨xb, xo, some q⟩ := by unfold Addr.add; split <;> simp_all
      rw [hadd] at c0
      simp only [World.cell?] at c0
      split at c0
      · simp at c0
      · simp at c0
end Go.Proofs.YtdgobaknbjlahaaGreatDoor
