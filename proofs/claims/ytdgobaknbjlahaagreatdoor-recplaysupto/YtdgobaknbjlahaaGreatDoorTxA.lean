/- Writes, boxes, guards. -/
import Derived.Test.YtdgobaknbjlahaaGreatDoorRdB
import Derived.Test.YtdgobaknbjlahaaGreatDoorNvD
import Derived.LoopTactic
import Derived.Laws.EntriesVeiled
namespace Go.Proofs.YtdgobaknbjlahaaGreatDoor
open Go.RowKit

/-- A row of writes of one's own. -/
def wcells (xs : List (Int × Int)) : List Value := xs.flatMap fun x => [.int .i64 x.1, u64 x.2]
theorem wcells_len (xs : List (Int × Int)) : (wcells xs).length = xs.length * 2 := by
  induction xs with
  | nil => rfl
  | cons x xs ih => simp only [wcells, List.flatMap_cons, List.length_append, List.length_cons, List.length_nil] at ih ⊢; omega
theorem wcells_app (xs ys : List (Int × Int)) : wcells (xs ++ ys) = wcells xs ++ wcells ys := by simp [wcells]
theorem wcells_at (xs : List (Int × Int)) : ∀ k x, xs[k]? = some x → (wcells xs)[k * 2]? = some (.int .i64 x.1) ∧ (wcells xs)[k * 2 + 1]? = some (u64 x.2) := by
  induction xs with
  | nil => intro k x h; simp at h
  | cons y xs ih =>
    intro k x h
    have e : wcells (y :: xs) = .int .i64 y.1 :: u64 y.2 :: wcells xs := by simp [wcells]
    cases k with
    | zero =>
      obtain rfl : y = x := by simpa using h
      rw [e]; exact ⟨rfl, rfl⟩
    | succ k =>
      have := ih k x (by simpa using h)
      rw [e, show (k + 1) * 2 = k * 2 + 1 + 1 by omega, show k * 2 + 1 + 1 + 1 = (k * 2 + 1) + 1 + 1 by omega]
      simpa using this

/-- A row of writes that is owned is a row of writes in memory. -/
theorem owns_wr {w : World} {base g n cap : Nat} {xs : List (Int × Int)} (h : w.ownsRow base 104 2 (.slice (some ⟨g, 0, none⟩) n cap) xs.length (wcells xs)) : WrAt w g 0 xs := by
  rcases h.2 with ⟨hn, _⟩ | ⟨g', cap', cur, hv, _, hb, _, _, _, h4⟩
  · cases hn
  cases hv
  intro k x hx
  obtain ⟨c1, c2⟩ := wcells_at xs k x hx
  have hk : k < xs.length := (List.getElem?_eq_some_iff.1 hx).1
  have get : ∀ j v, j < xs.length * 2 → (wcells xs)[j]? = some v → cur[j]? = some v := fun j v hj hv => by
    rw [← h4, List.getElem?_take_of_lt hj] at hv
    rwa [Array.getElem?_toList] at hv
  rw [Nat.zero_add]
  exact ⟨(cell_of_row _ _ _ _ _ _ hb).trans (get _ _ (by omega) c1), (cell_of_row _ _ _ _ _ _ hb).trans (get _ _ (by omega) c2)⟩

theorem pair_news (w : World) (x y : Int) (t : TypeId) (j : Nat) (u : Value) (h : ([.int .i64 x, u64 y] : List Value)[j]? = some u) : (w.alloc (.cells #[.int .i64 x, u64 y] t)).cell? ((⟨w.heap.size, 0, none⟩ : Addr).add j) = some u := by
  have hadd : (⟨w.heap.size, 0, none⟩ : Addr).add j = ⟨w.heap.size, j, none⟩ := by unfold Addr.add; split <;> simp_all
  rw [hadd, cell_of_row _ _ _ _ _ _ (heap_alloc_new w _)]
  simpa using h

/-- Blocks turn that are none of the device's, all of them new since w0. -/
theorem On.turn {w0 w w' : World} {b : Nat} {L0 L : Lay} {A : Ab} (h : On w0 b L0 w L A) {F : Nat → Prop} (hf : Fr F w w') (h1 : ∀ k, F k → ¬ foot b L k) (h2 : ∀ k, F k → w0.heap.size ≤ k) : On w0 b L0 w' L A :=
  ⟨h.d.kept hf (fun k hk e => h1 k e hk), h.fr.trans' hf (fun k e => .inr (h2 k e)), h.sub⟩
/-- A row of another's stays none of the device's. -/
theorem On.apart {w0 w : World} {b : Nat} {L0 L : Lay} {A : Ab} (h : On w0 b L0 w L A) {r : Nat} (hr : r < w0.heap.size) (hn : ¬ foot b L0 r) : ¬ foot b L r := h.other hr hn

theorem info_wr : (Tryz.prog.info? 104).map (fun i => (i.zero, i.size, i.bytes)) = some (some (.agg #[.int .i64 0, .int .u64 0]), 2, 16) := by kernel_rfl

/-- A block of one cell, that may be written. -/
structure Box (w : World) (r : Nat) (v : Value) : Prop where
  c : w.cell? ⟨r, 0, none⟩ = some v
  z : w.frozen? ⟨r, 0, none⟩ = false
  lt : r < w.heap.size

theorem Box.new (w : World) (v : Value) (t : TypeId) : Box (w.alloc (.cells #[v] t)) w.heap.size v := by
  have h := heap_alloc_new w (.cells #[v] t)
  exact ⟨by unfold World.cell?; rw [h]; rfl, by unfold World.frozen?; rw [h]; rfl, by simp⟩
theorem Box.kept {w w' : World} {F : Nat → Prop} {r : Nat} {v : Value} (h : Box w r v) (f : Fr F w w') (n : ¬ F r) : Box w' r v :=
  ⟨f.cell' h.c n, (f.frozen h.lt n).trans h.z, Nat.lt_of_lt_of_le h.lt f.size⟩
theorem Box.alloc {w : World} {r : Nat} {v : Value} (h : Box w r v) (o : Obj) : Box (w.alloc o) r v := h.kept ((Fr.refl (fun _ => False) w).alloc o) (fun x => x)
theorem Box.other {w : World} {r : Nat} {v : Value} (h : Box w r v) {a : Addr} (ha : r ≠ a.block) (u : Value) : Box (w.setCell a u) r v :=
  h.kept ((Fr.refl (fun k => k = a.block) w).setCell (.inl rfl) u) ha
theorem Box.set {w : World} {r : Nat} {v : Value} (h : Box w r v) (u : Value) : Box (w.setCell ⟨r, 0, none⟩ u) r u :=
  ⟨World.cell?_setCell_same _ _ _ h.c, by rw [World.frozen?_setCell]; exact h.z, by simpa using h.lt⟩

/-- No old block turned. -/
abbrev Still (w w' : World) : Prop := Fr (fun _ => False) w w'
theorem Fr.obj {F : Nat → Prop} {w w' : World} (h : Fr F w w') {k : Nat} {o : Obj} (hv : w.heap[k]? = some o) (hF : ¬ F k) : w'.heap[k]? = some o :=
  (h.block k (by rcases Nat.lt_or_ge k w.heap.size with hk | hk; exact hk; rw [Array.getElem?_eq_none hk] at hv; cases hv) hF).trans hv
theorem cell_of_obj {w : World} {k : Nat} {cs : Array Value} {t : Nat} {z : Nat × Nat} (h : w.heap[k]? = some (.cells cs t z)) (i : Nat) : w.cell? ⟨k, i, none⟩ = cs[i]? := by
  simp [World.cell?, h]
theorem frozen_of_obj {w : World} {k : Nat} {cs : Array Value} {t : Nat} (h : w.heap[k]? = some (.cells cs t)) (i : Nat) : w.frozen? ⟨k, i, none⟩ = false := by
  simp [World.frozen?, h]

/-- How a call of a function without results ended: well (none), or by a panic with a value of a type. -/
structure How where
  o : Option (Nat × Value)

abbrev How.well : How := ⟨none⟩
abbrev How.bad (t : Nat) (x : Value) : How := ⟨some (t, x)⟩
/-- An error of ours, the power gone, a text. -/
abbrev How.errno (i : Int) : How := .bad 33 (.int .i64 i)
abbrev How.lost : How := .bad 95 (.agg #[])

theorem How.byCases {motive : How → Prop} (h : How) (well : motive .well) (bad : ∀ t x, motive (.bad t x)) : motive h := by
  obtain ⟨o⟩ := h
  rcases o with _ | ⟨t, x⟩
  · exact well
  · exact bad t x

/-- What a guard tells of it. -/
def How.v (h : How) : Value :=
  match h.o with
  | none => .nilIface
  | some (t, x) => .iface t x
def How.is (h : How) : Bool :=
  match h.o with
  | none => false
  | some _ => true
/-- The call's end. -/
def How.ended (h : How) (e : Ending) : Prop :=
  match h.o with
  | none => e = .returned (.tuple #[])
  | some (t, x) => ∃ older, (∀ y ∈ older, y.goexit = false) ∧ e = .panicked ({ v := .iface t x, recovered := false } :: older)

theorem How.ended_one (t : Nat) (x : Value) : (How.bad t x).ended (.panicked [{ v := .iface t x, recovered := false }]) := ⟨[], by simp, rfl⟩

/-- The function value f is nil or is run from w so that R tells how it ended and what the world is then. -/
def Acts (f : Value) (w : World) (R : How → World → Prop) : Prop :=
  (f = .nilFunc ∧ R .well w) ∨ ∃ g first cap, f = .func (.func g) first cap ∧ Enters g ∧ Calls Tryz.prog g (first ++ cap) w fun e w' => ∃ h, h.ended e ∧ R h w'

theorem Acts.mono {f : Value} {w : World} {R R' : How → World → Prop} (h : Acts f w R) (hr : ∀ h w', R h w' → R' h w') : Acts f w R' := by
  rcases h with ⟨rfl, h⟩ | ⟨g, first, cap, rfl, he, h⟩
  · exact .inl ⟨rfl, hr _ _ h⟩
  · exact .inr ⟨g, first, cap, rfl, he, h.mono fun e w' ⟨x, h1, h2⟩ => ⟨x, h1, hr _ _ h2⟩⟩
theorem acts_of {g : Nat} {first cap : Array Value} {w : World} {R : How → World → Prop} (he : Enters g) (h : Calls Tryz.prog g (first ++ cap) w fun e w' => ∃ h, h.ended e ∧ R h w') : Acts (.func (.func g) first cap) w R :=
  .inr ⟨g, first, cap, rfl, he, h⟩

theorem settle_bad {t : Nat} {x : Value} {older : List PanicEntry} (h : ∀ y ∈ older, y.goexit = false) : settle (.panicking ({ v := .iface t x, recovered := true } :: older)) = .returning := by
  have e : older.dropWhile (fun y => !y.goexit) = [] := by
    induction older with
    | nil => rfl
    | cons a l ih => rw [List.dropWhile_cons_of_pos (by simp [h a (by simp)])]; exact ih fun y hy => h y (by simp [hy])
  simp [settle, e]

theorem mf (fn : Fn) (first cap : Array Value) (w : World) : (Instr.makeFunc fn first cap).run Tryz.prog w = .ok (.func fn first cap) w := rfl
theorem nn_some (fn : Fn) (first cap : Array Value) (w : World) : (binOp .neq 1 (.func fn first cap) .nilFunc).run Tryz.prog w = .ok (.bool true) w := by kernel_rfl
theorem nn_nil (w : World) : (binOp .neq 1 .nilFunc .nilFunc).run Tryz.prog w = .ok (.bool false) w := by kernel_rfl

set_option maxHeartbeats 400000 in
theorem call_nil (w : World) : Calls Tryz.prog 89 #[.nilFunc] w fun e w' => e = .returned (.tuple #[]) ∧ w' = w := by
  have h1 := nn_nil
  go_enter Tryz.func89, Tryz.ntmps89
  go_wp2
  go_end0
  exact ⟨rfl, rfl⟩

set_option maxHeartbeats 400000 in
theorem call_some {g : Nat} (hg : Enters g) {first cap : Array Value} {w : World} {R : How → World → Prop} (hf : Calls Tryz.prog g (first ++ cap) w fun e w' => ∃ h, h.ended e ∧ R h w') :
    Calls Tryz.prog 89 #[.func (.func g) first cap] w fun e w' => ∃ h, h.ended e ∧ R h w' := by
  have HF := hide hf; clear hf
  have h1 := nn_some
  unfold Enters at hg
  go_enter Tryz.func89, Tryz.ntmps89
  go_wp2_with fail
  refine (unhide HF).mono ?_
  rintro e w1 ⟨h, he, hR⟩
  have HR := hide hR; clear hR HF
  cases h using How.byCases with
  | well =>
    cases he
    go_wp2
    go_end0
    exact ⟨.well, rfl, unhide HR⟩
  | bad t x =>
    obtain ⟨older, ho, rfl⟩ := he
    exact ⟨rfl, .bad t x, ⟨older, ho, rfl⟩, unhide HR⟩

theorem call_acts {f : Value} {w : World} {R : How → World → Prop} (h : Acts f w R) : Calls Tryz.prog 89 #[f] w fun e w' => ∃ h, h.ended e ∧ R h w' := by
  rcases h with ⟨rfl, h⟩ | ⟨g, first, cap, rfl, he, h⟩
  · exact (call_nil w).mono fun e w' ⟨h1, h2⟩ => ⟨.well, h1, h2 ▸ h⟩
  · exact call_some he h

set_option maxHeartbeats 400000 in
theorem try1_idle (p : Addr) (v : Value) (w : World) (hc : w.cell? p = some v) (hz : w.frozen? p = false) :
    CallsD Tryz.prog 88 #[.pointer (some p)] .returning w fun e u' w' => e = .returned (.tuple #[]) ∧ u' = .returning ∧ w' = w.setCell p .nilIface := by
  refine callsD_of_wpS Tryz.func88 rfl fun c₀ cs hu => ?_
  apply wpS_region
  simp [wpOpsS, go_sem, recoverD, hu, Tryz.ntmps88, hc, hz, Oper.upon]
  cases c₀
  simp_all [bodyPostS, results, Tryz.results88]

set_option maxHeartbeats 400000 in
theorem try1_bad (p : Addr) (v : Value) (t : Nat) (x : Value) (older : List PanicEntry) (w : World) (hc : w.cell? p = some v) (hz : w.frozen? p = false) :
    CallsD Tryz.prog 88 #[.pointer (some p)] (.panicking ({ v := .iface t x, recovered := false } :: older)) w fun e u' w' =>
      e = .returned (.tuple #[]) ∧ u' = .panicking ({ v := .iface t x, recovered := true } :: older) ∧ w' = w.setCell p (.iface t x) := by
  refine callsD_of_wpS Tryz.func88 rfl fun c₀ cs hu => ?_
  apply wpS_region
  simp [wpOpsS, go_sem, recoverD, hu, Tryz.ntmps88, hc, hz, Oper.upon]
  cases c₀
  simp_all [bodyPostS, results, Tryz.results88]

/-- The box of the told value. -/
abbrev box : Obj := .cells #[.nilIface] 20

set_option maxHeartbeats 400000 in
theorem try_raw {f : Value} {w : World} {R : How → World → Prop}
    (hf : Acts f (w.alloc box) fun h w1 => w1.heap[w.heap.size]? = some box ∧ ∀ w2, Fr (fun k => k = w.heap.size) w1 w2 → R h w2) :
    Calls Tryz.prog 51 #[f] w fun e w' => ∃ h, e = .returned (.tuple #[h.v, .bool h.is]) ∧ R h w' := by
  have K := call_acts hf
  clear hf
  have h1 := mf
  have HK := hide K; clear K
  go_enter_defers Tryz.func51, Tryz.ntmps51
  go_wp2_with fail
  refine (unhide HK).mono ?_
  rintro e w1 ⟨h, he, hb, hR⟩
  have HR := hide hR; clear hR HK
  have hc := cell_of_obj hb 0
  have hz := frozen_of_obj hb 0
  cases h using How.byCases with
  | well =>
    cases he
    go_wp2
    have hc1 := World.cell?_setCell_same w1 ⟨w.heap.size, 0, none⟩ .nilIface hc
    refine leaves_cons (f := 88) (args := #[ptr w.heap.size]) (by simp) (by simp [go_sem]) ?_
    refine (try1_idle ⟨w.heap.size, 0, none⟩ _ _ hc1 (by simpa using hz)).mono ?_
    rintro e u' w' ⟨rfl, rfl, rfl⟩
    have hc2 := World.cell?_setCell_same _ ⟨w.heap.size, 0, none⟩ .nilIface hc1
    refine ⟨.tuple #[.nilIface, .bool false], ?_, .well, rfl, ?_⟩
    · simp [results, Tryz.results51, go_sem, hc2]
    · exact unhide HR _ (((Fr.refl (fun k => k = w.heap.size) w1).setCell (.inl rfl) _).setCell (.inl rfl) _)
  | bad t x =>
    obtain ⟨older, ho, rfl⟩ := he
    go_wp2
    refine leaves_cons (f := 88) (args := #[ptr w.heap.size]) (by simp) (by simp [go_sem]) ?_
    refine (try1_bad ⟨w.heap.size, 0, none⟩ _ t x older _ hc hz).mono ?_
    rintro e u' w' ⟨rfl, rfl, rfl⟩
    have hc2 := World.cell?_setCell_same _ ⟨w.heap.size, 0, none⟩ (.iface t x) hc
    simp only [settle_bad ho]
    refine ⟨.tuple #[.iface t x, .bool true], ?_, .bad t x, rfl, ?_⟩
    · simp [results, Tryz.results51, go_sem, hc2]
    · exact unhide HR _ ((Fr.refl (fun k => k = w.heap.size) w1).setCell (.inl rfl) _)

/-- Try where f turns only blocks of F. -/
theorem try_fr {f : Value} {w : World} {F : Nat → Prop} {S : How → World → Prop} (hF : ∀ k, F k → k < w.heap.size)
    (hf : Acts f (w.alloc box) fun h w1 => Fr F (w.alloc box) w1 ∧ ∀ w2, Fr (fun k => k = w.heap.size) w1 w2 → S h w2) :
    Calls Tryz.prog 51 #[f] w fun e w' => ∃ h, e = .returned (.tuple #[h.v, .bool h.is]) ∧ S h w' := by
  refine try_raw (hf.mono fun h w1 ⟨fr, hS⟩ => ⟨?_, fun w2 f2 => hS w2 f2⟩)
  exact fr.obj (heap_alloc_new w box) fun h => Nat.lt_irrefl _ (hF _ h)

theorem taL_lost (w : World) : (Instr.typeAssert (.iface 95 (.agg #[])) 20 95 true).run Tryz.prog w = .ok (.tuple #[.agg #[], .bool true]) w := by kernel_rfl

set_option maxHeartbeats 800000 in
/-- Only about what ends well or finds the power gone. -/
theorem onlyL_raw {f : Value} {w : World} {R : How → World → Prop} (K : ∀ w0, Still w w0 → Calls Tryz.prog 51 #[f] w0 fun e w' => ∃ h, e = .returned (.tuple #[h.v, .bool h.is]) ∧ R h w') (hk : ∀ h w', R h w' → h = .well ∨ h = .lost) :
    Calls Tryz.prog 53 #[f] w fun e w' => ∃ w1, Still w1 w' ∧ ((e = .returned (.tuple #[.agg #[], .bool false]) ∧ R .well w1) ∨ (e = .returned (.tuple #[.agg #[], .bool true]) ∧ R .lost w1)) := by
  have HK := hide (K _ ((Fr.refl _ w).alloc (.cells #[] 95))); clear K
  have a1 := taL_lost
  go_enter Tryz.func53, Tryz.ntmps53
  go_wp2_with fail
  refine (unhide HK).mono ?_
  rintro e w1 ⟨h, rfl, hR⟩
  have hK := hk _ _ hR
  have HR := hide hR; clear hR HK hk
  rcases hK with rfl | rfl
  · simp only [How.v, How.is]
    go_wp2
    refine bodyPost_ret (v := .tuple #[.agg #[], .bool false]) (by simp [results, Tryz.results53, go_sem, loadVar]) rfl ?_
    exact ⟨w1, Fr.refl _ _, .inl ⟨rfl, unhide HR⟩⟩
  · simp only [How.v, How.is]
    go_wp2
    refine bodyPost_ret (v := .tuple #[.agg #[], .bool true]) (by simp [results, Tryz.results53, go_sem, loadVar]) rfl ?_
    exact ⟨w1, (Fr.refl _ w1).alloc _, .inr ⟨rfl, unhide HR⟩⟩

theorem onlyL_two {f : Value} {w : World} {R0 R1 : World → Prop} (K : ∀ w0, Still w w0 → Calls Tryz.prog 51 #[f] w0 fun e w' => ∃ h : How, e = .returned (.tuple #[h.v, .bool h.is]) ∧ ((h = .well ∧ R0 w') ∨ (h = .lost ∧ R1 w'))) :
    Calls Tryz.prog 53 #[f] w fun e w' => ∃ w1, Still w1 w' ∧ ((e = .returned (.tuple #[.agg #[], .bool false]) ∧ R0 w1) ∨ (e = .returned (.tuple #[.agg #[], .bool true]) ∧ R1 w1)) := by
  refine (onlyL_raw K (fun h w' x => x.imp (fun y => y.1) (fun y => y.1))).mono ?_
  rintro e w' ⟨w1, f1, ⟨rfl, x⟩ | ⟨rfl, x⟩⟩
  · refine ⟨w1, f1, .inl ⟨rfl, ?_⟩⟩
    rcases x with ⟨_, x⟩ | ⟨e, _⟩
    · exact x
    · injection e with e; cases e
  · refine ⟨w1, f1, .inr ⟨rfl, ?_⟩⟩
    rcases x with ⟨e, _⟩ | ⟨_, x⟩
    · injection e with e; cases e
    · exact x

set_option maxHeartbeats 2000000 in
/-- Each over two function values that lie in block lb: f well, then g; S: how it ended at the first that panicked. -/
theorem each_two {lb : Nat} {f g : Value} {w : World} {I1 I2 : World → Prop} {S : How → World → Prop}
    (c0 : w.cell? ⟨lb, 0, none⟩ = some f) (hf : Calls Tryz.prog 51 #[f] w fun e w' => ∃ h : How, e = .returned (.tuple #[h.v, .bool h.is]) ∧ ((h = .well ∧ w'.cell? ⟨lb, 1, none⟩ = some g ∧ I1 w') ∨ (h.is = true ∧ S h w')))
    (hg : ∀ w1, I1 w1 → Calls Tryz.prog 51 #[g] w1 fun e w' => ∃ h : How, e = .returned (.tuple #[h.v, .bool h.is]) ∧ ((h = .well ∧ I2 w') ∨ (h.is = true ∧ S h w'))) :
    Calls Tryz.prog 24 #[.slice (some ⟨lb, 0, none⟩) 2 2] w fun e w' => ∃ k : Int, (e = .returned (.tuple #[.int .i64 k, .nilIface]) ∧ I2 w') ∨ ∃ h : How, e = .returned (.tuple #[.int .i64 k, h.v]) ∧ S h w' := by
  have HF := hide hf; have HG := @hide _ hg; have HC := hide c0
  clear hf hg c0
  go_enter Tryz.func24, Tryz.ntmps24
  go_wp2
  go_loopw [2, 10] (fun d i wr => (d = .int .i64 0 ∧ i = .int .i64 0 ∧ wr = w) ∨ (d = .int .i64 1 ∧ i = .int .i64 1 ∧ wr.cell? ⟨lb, 1, none⟩ = some g ∧ I1 wr) ∨ (d = .int .i64 2 ∧ i = .int .i64 2 ∧ I2 wr)) (fun d i wr => 2 - (intOf i).toNat)
  case atStart => exact .inl ⟨rfl, rfl, rfl⟩
  case round =>
    rcases hrel with ⟨rfl, rfl, hw⟩ | ⟨rfl, rfl, c, hI⟩ | ⟨rfl, rfl, hI⟩
    · subst hw
      have c := unhide HC
      clear HC
      go_wp2_with fail
      refine (unhide HF).mono ?_
      clear HF
      rintro e w1 ⟨h, rfl, hh | hh⟩
      · obtain ⟨rfl, c1, hI⟩ := hh
        simp only [How.v, How.is]
        have HI := hide (And.intro c1 hI)
        clear hI c c1
        go_wp2
        go_roundw
        case rel => exact .inr (.inl ⟨rfl, rfl, unhide HI⟩)
        case measure => simp [intOf]
      · obtain ⟨hi, hs⟩ := hh
        rw [hi]
        generalize hv : h.v = v
        have HV := hide hv; have HS := hide hs
        clear hs hv c hi
        go_wp2
        go_ret2
        exact ⟨_, .inr ⟨h, by rw [unhide HV]; rfl, unhide HS⟩⟩
    · have K := hide (unhide HG wr hI)
      clear hI HF HG HC
      go_wp2_with fail
      refine (unhide K).mono ?_
      clear K
      rintro e w1 ⟨h, rfl, hh | hh⟩
      · obtain ⟨rfl, hI⟩ := hh
        simp only [How.v, How.is]
        have HI := hide hI
        clear hI c
        go_wp2
        go_roundw
        case rel => exact .inr (.inr ⟨rfl, rfl, unhide HI⟩)
        case measure => simp [intOf]
      · obtain ⟨hi, hs⟩ := hh
        rw [hi]
        generalize hv : h.v = v
        have HV := hide hv; have HS := hide hs
        clear hs hv c hi
        go_wp2
        go_ret2
        exact ⟨_, .inr ⟨h, by rw [unhide HV]; rfl, unhide HS⟩⟩
    · have HI := hide hI
      clear hI HF HG HC
      go_wp2
      go_ret2
      exact ⟨_, .inl ⟨rfl, unhide HI⟩⟩
end Go.Proofs.YtdgobaknbjlahaaGreatDoor
