/- Joined: TxA GHq GHa. -/
import Derived.LoopTactic
import Derived.Laws.EntriesVeiled
import Derived.Test.YtflnaiijdpihcaaGreatDoorP01
import Derived.Test.YtflnaiijdpihcaaGreatDoorP03
namespace Go.Proofs.YtflnaiijdpihcaaGreatDoor
open Go.RowKit

section
def wcells (xs : List (Int × Int)) : List Value := xs.flatMap fun x => [.int .i64 x.1, u64 x.2]
theorem wcells_app (xs ys : List (Int × Int)) : wcells (xs ++ ys) = wcells xs ++ wcells ys := by simp [wcells]
theorem wcells_at (xs : List (Int × Int)) : ∀ k x, xs[k]? = some x → (wcells xs)[k * 2]? = some (.int .i64 x.1) ∧ (wcells xs)[k * 2 + 1]? = some (u64 x.2) := by
  induction xs with
  | nil => intro k x h; simp at h
  | cons y xs ih =>
    intro k x h
    have e : wcells (y :: xs) = .int .i64 y.1 :: u64 y.2 :: wcells xs := by simp [wcells]
    cases k with
    | zero =>
      obtain rfl : y = x := by simpa using h
      rw [e]; exact ⟨rfl, rfl⟩
    | succ k =>
      have := ih k x (by simpa using h)
      rw [e, show (k + 1) * 2 = k * 2 + 1 + 1 by omega, show k * 2 + 1 + 1 + 1 = (k * 2 + 1) + 1 + 1 by omega]
      simpa using this

theorem owns_wr {w : World} {base g n cap : Nat} {xs : List (Int × Int)} (h : w.ownsRow base 162 2 (.slice (some ⟨g, 0, none⟩) n cap) xs.length (wcells xs)) : WrAt w g 0 xs := by
  rcases h.2 with ⟨hn, _⟩ | ⟨g', cap', cur, hv, _, hb, _, _, _, h4⟩
  · cases hn
  cases hv
  intro k x hx
  obtain ⟨c1, c2⟩ := wcells_at xs k x hx
  have hk : k < xs.length := (List.getElem?_eq_some_iff.1 hx).1
  have get : ∀ j v, j < xs.length * 2 → (wcells xs)[j]? = some v → cur[j]? = some v := fun j v hj hv => by
    rw [← h4, List.getElem?_take_of_lt hj] at hv
    rwa [Array.getElem?_toList] at hv
  rw [Nat.zero_add]
  exact ⟨(cell_of_row _ _ _ _ _ _ hb).trans (get _ _ (by omega) c1), (cell_of_row _ _ _ _ _ _ hb).trans (get _ _ (by omega) c2)⟩

theorem pair_news (w : World) (x y : Int) (t : TypeId) (j : Nat) (u : Value) (h : ([.int .i64 x, u64 y] : List Value)[j]? = some u) : (w.alloc (.cells #[.int .i64 x, u64 y] t)).cell? ((⟨w.heap.size, 0, none⟩ : Addr).add j) = some u := by
  have hadd : (⟨w.heap.size, 0, none⟩ : Addr).add j = ⟨w.heap.size, j, none⟩ := by unfold Addr.add; split <;> simp_all
  rw [hadd, cell_of_row _ _ _ _ _ _ (heap_alloc_new w _)]
  simpa using h

theorem On.turn {w0 w w' : World} {b : Nat} {L0 L : Lay} {A : Ab} (h : On w0 b L0 w L A) {F : Nat → Prop} (hf : Fr F w w') (h1 : ∀ k, F k → ¬ foot b L k) (h2 : ∀ k, F k → w0.heap.size ≤ k) : On w0 b L0 w' L A :=
  ⟨h.d.kept hf (fun k hk e => h1 k e hk), h.fr.trans' hf (fun k e => .inr (h2 k e)), h.sub⟩
theorem On.apart {w0 w : World} {b : Nat} {L0 L : Lay} {A : Ab} (h : On w0 b L0 w L A) {r : Nat} (hr : r < w0.heap.size) (hn : ¬ foot b L0 r) : ¬ foot b L r := h.other hr hn

theorem info_wr : (Tryz.prog.info? 162).map (fun i => (i.zero, i.size, i.bytes)) = some (some (.agg #[.int .i64 0, .int .u64 0]), 2, 16) := by kernel_rfl

structure Box (w : World) (r : Nat) (v : Value) : Prop where
  c : w.cell? ⟨r, 0, none⟩ = some v
  z : w.frozen? ⟨r, 0, none⟩ = false
  lt : r < w.heap.size

theorem Box.new (w : World) (v : Value) (t : TypeId) : Box (w.alloc (.cells #[v] t)) w.heap.size v := by
  have h := heap_alloc_new w (.cells #[v] t)
  exact ⟨by unfold World.cell?; rw [h]; rfl, by unfold World.frozen?; rw [h]; rfl, by simp⟩
theorem Box.kept {w w' : World} {F : Nat → Prop} {r : Nat} {v : Value} (h : Box w r v) (f : Fr F w w') (n : ¬ F r) : Box w' r v :=
  ⟨f.cell' h.c n, (f.frozen h.lt n).trans h.z, Nat.lt_of_lt_of_le h.lt f.size⟩
theorem Box.alloc {w : World} {r : Nat} {v : Value} (h : Box w r v) (o : Obj) : Box (w.alloc o) r v := h.kept ((Fr.refl (fun _ => False) w).alloc o) (fun x => x)
theorem Box.other {w : World} {r : Nat} {v : Value} (h : Box w r v) {a : Addr} (ha : r ≠ a.block) (u : Value) : Box (w.setCell a u) r v :=
  h.kept ((Fr.refl (fun k => k = a.block) w).setCell (.inl rfl) u) ha
theorem Box.set {w : World} {r : Nat} {v : Value} (h : Box w r v) (u : Value) : Box (w.setCell ⟨r, 0, none⟩ u) r u :=
  ⟨World.cell?_setCell_same _ _ _ h.c, by rw [World.frozen?_setCell]; exact h.z, by simpa using h.lt⟩

abbrev Still (w w' : World) : Prop := Fr (fun _ => False) w w'
theorem Fr.obj {F : Nat → Prop} {w w' : World} (h : Fr F w w') {k : Nat} {o : Obj} (hv : w.heap[k]? = some o) (hF : ¬ F k) : w'.heap[k]? = some o :=
  (h.block k (by rcases Nat.lt_or_ge k w.heap.size with hk | hk; exact hk; rw [Array.getElem?_eq_none hk] at hv; cases hv) hF).trans hv
theorem cell_of_obj {w : World} {k : Nat} {cs : Array Value} {t : Nat} {z : Nat × Nat} (h : w.heap[k]? = some (.cells cs t z)) (i : Nat) : w.cell? ⟨k, i, none⟩ = cs[i]? := by
  simp [World.cell?, h]
theorem frozen_of_obj {w : World} {k : Nat} {cs : Array Value} {t : Nat} (h : w.heap[k]? = some (.cells cs t)) (i : Nat) : w.frozen? ⟨k, i, none⟩ = false := by
  simp [World.frozen?, h]

structure How where
  o : Option (Nat × Value)

abbrev How.well : How := ⟨none⟩
abbrev How.bad (t : Nat) (x : Value) : How := ⟨some (t, x)⟩
abbrev How.errno (i : Int) : How := .bad 33 (.int .i64 i)
abbrev How.lost : How := .bad 154 (.agg #[])

theorem How.byCases {motive : How → Prop} (h : How) (well : motive .well) (bad : ∀ t x, motive (.bad t x)) : motive h := by
  obtain ⟨o⟩ := h
  rcases o with _ | ⟨t, x⟩
  · exact well
  · exact bad t x

def How.v (h : How) : Value :=
  match h.o with
  | none => .nilIface
  | some (t, x) => .iface t x
def How.is (h : How) : Bool :=
  match h.o with
  | none => false
  | some _ => true
def How.ended (h : How) (e : Ending) : Prop :=
  match h.o with
  | none => e = .returned (.tuple #[])
  | some (t, x) => ∃ older, (∀ y ∈ older, y.goexit = false) ∧ e = .panicked ({ v := .iface t x, recovered := false } :: older)

theorem How.ended_one (t : Nat) (x : Value) : (How.bad t x).ended (.panicked [{ v := .iface t x, recovered := false }]) := ⟨[], by simp, rfl⟩

def Acts (f : Value) (w : World) (R : How → World → Prop) : Prop :=
  (f = .nilFunc ∧ R .well w) ∨ ∃ g first cap, f = .func (.func g) first cap ∧ Enters g ∧ Calls Tryz.prog g (first ++ cap) w fun e w' => ∃ h, h.ended e ∧ R h w'

theorem Acts.mono {f : Value} {w : World} {R R' : How → World → Prop} (h : Acts f w R) (hr : ∀ h w', R h w' → R' h w') : Acts f w R' := by
  rcases h with ⟨rfl, h⟩ | ⟨g, first, cap, rfl, he, h⟩
  · exact .inl ⟨rfl, hr _ _ h⟩
  · exact .inr ⟨g, first, cap, rfl, he, h.mono fun e w' ⟨x, h1, h2⟩ => ⟨x, h1, hr _ _ h2⟩⟩
theorem acts_of {g : Nat} {first cap : Array Value} {w : World} {R : How → World → Prop} (he : Enters g) (h : Calls Tryz.prog g (first ++ cap) w fun e w' => ∃ h, h.ended e ∧ R h w') : Acts (.func (.func g) first cap) w R :=
  .inr ⟨g, first, cap, rfl, he, h⟩

theorem settle_bad {t : Nat} {x : Value} {older : List PanicEntry} (h : ∀ y ∈ older, y.goexit = false) : settle (.panicking ({ v := .iface t x, recovered := true } :: older)) = .returning := by
  have e : older.dropWhile (fun y => !y.goexit) = [] := by
    induction older with
    | nil => rfl
    | cons a l ih => rw [List.dropWhile_cons_of_pos (by simp [h a (by simp)])]; exact ih fun y hy => h y (by simp [hy])
  simp [settle, e]

theorem mf (fn : Fn) (first cap : Array Value) (w : World) : (Instr.makeFunc fn first cap).run Tryz.prog w = .ok (.func fn first cap) w := rfl
theorem nn_some (fn : Fn) (first cap : Array Value) (w : World) : (binOp .neq 1 (.func fn first cap) .nilFunc).run Tryz.prog w = .ok (.bool true) w := by kernel_rfl
theorem nn_nil (w : World) : (binOp .neq 1 .nilFunc .nilFunc).run Tryz.prog w = .ok (.bool false) w := by kernel_rfl

set_option maxHeartbeats 400000 in
theorem call_nil (w : World) : Calls Tryz.prog 158 #[.nilFunc] w fun e w' => e = .returned (.tuple #[]) ∧ w' = w := by
  have h1 := nn_nil
  go_enter Tryz.func158, Tryz.ntmps158
  go_wp2
  go_end0
  exact ⟨rfl, rfl⟩

set_option maxHeartbeats 400000 in
theorem call_some {g : Nat} (hg : Enters g) {first cap : Array Value} {w : World} {R : How → World → Prop} (hf : Calls Tryz.prog g (first ++ cap) w fun e w' => ∃ h, h.ended e ∧ R h w') :
    Calls Tryz.prog 158 #[.func (.func g) first cap] w fun e w' => ∃ h, h.ended e ∧ R h w' := by
  have HF := hide hf; clear hf
  have h1 := nn_some
  unfold Enters at hg
  go_enter Tryz.func158, Tryz.ntmps158
  go_wp2_with fail
  refine (unhide HF).mono ?_
  rintro e w1 ⟨h, he, hR⟩
  have HR := hide hR; clear hR HF
  cases h using How.byCases with
  | well =>
    cases he
    go_wp2
    go_end0
    exact ⟨.well, rfl, unhide HR⟩
  | bad t x =>
    obtain ⟨older, ho, rfl⟩ := he
    exact ⟨rfl, .bad t x, ⟨older, ho, rfl⟩, unhide HR⟩

theorem call_acts {f : Value} {w : World} {R : How → World → Prop} (h : Acts f w R) : Calls Tryz.prog 158 #[f] w fun e w' => ∃ h, h.ended e ∧ R h w' := by
  rcases h with ⟨rfl, h⟩ | ⟨g, first, cap, rfl, he, h⟩
  · exact (call_nil w).mono fun e w' ⟨h1, h2⟩ => ⟨.well, h1, h2 ▸ h⟩
  · exact call_some he h

set_option maxHeartbeats 400000 in
theorem try1_idle (p : Addr) (v : Value) (w : World) (hc : w.cell? p = some v) (hz : w.frozen? p = false) :
    CallsD Tryz.prog 157 #[.pointer (some p)] .returning w fun e u' w' => e = .returned (.tuple #[]) ∧ u' = .returning ∧ w' = w.setCell p .nilIface := by
  refine callsD_of_wpS Tryz.func157 rfl fun c₀ cs hu => ?_
  apply wpS_region
  simp [wpOpsS, go_sem, recoverD, hu, Tryz.ntmps157, hc, hz, Oper.upon]
  cases c₀
  simp_all [bodyPostS, results, Tryz.results157]

set_option maxHeartbeats 400000 in
theorem try1_bad (p : Addr) (v : Value) (t : Nat) (x : Value) (older : List PanicEntry) (w : World) (hc : w.cell? p = some v) (hz : w.frozen? p = false) :
    CallsD Tryz.prog 157 #[.pointer (some p)] (.panicking ({ v := .iface t x, recovered := false } :: older)) w fun e u' w' =>
      e = .returned (.tuple #[]) ∧ u' = .panicking ({ v := .iface t x, recovered := true } :: older) ∧ w' = w.setCell p (.iface t x) := by
  refine callsD_of_wpS Tryz.func157 rfl fun c₀ cs hu => ?_
  apply wpS_region
  simp [wpOpsS, go_sem, recoverD, hu, Tryz.ntmps157, hc, hz, Oper.upon]
  cases c₀
  simp_all [bodyPostS, results, Tryz.results157]

abbrev box : Obj := .cells #[.nilIface] 20

set_option maxHeartbeats 400000 in
theorem try_raw {f : Value} {w : World} {R : How → World → Prop}
    (hf : Acts f (w.alloc box) fun h w1 => w1.heap[w.heap.size]? = some box ∧ ∀ w2, Fr (fun k => k = w.heap.size) w1 w2 → R h w2) :
    Calls Tryz.prog 99 #[f] w fun e w' => ∃ h, e = .returned (.tuple #[h.v, .bool h.is]) ∧ R h w' := by
  have K := call_acts hf
  clear hf
  have h1 := mf
  have HK := hide K; clear K
  go_enter_defers Tryz.func99, Tryz.ntmps99
  go_wp2_with fail
  refine (unhide HK).mono ?_
  rintro e w1 ⟨h, he, hb, hR⟩
  have HR := hide hR; clear hR HK
  have hc := cell_of_obj hb 0
  have hz := frozen_of_obj hb 0
  cases h using How.byCases with
  | well =>
    cases he
    go_wp2
    have hc1 := World.cell?_setCell_same w1 ⟨w.heap.size, 0, none⟩ .nilIface hc
    refine leaves_cons (f := 157) (args := #[ptr w.heap.size]) (by simp) (by simp [go_sem]) ?_
    refine (try1_idle ⟨w.heap.size, 0, none⟩ _ _ hc1 (by simpa using hz)).mono ?_
    rintro e u' w' ⟨rfl, rfl, rfl⟩
    have hc2 := World.cell?_setCell_same _ ⟨w.heap.size, 0, none⟩ .nilIface hc1
    refine ⟨.tuple #[.nilIface, .bool false], ?_, .well, rfl, ?_⟩
    · simp [results, Tryz.results99, go_sem, hc2]
    · exact unhide HR _ (((Fr.refl (fun k => k = w.heap.size) w1).setCell (.inl rfl) _).setCell (.inl rfl) _)
  | bad t x =>
    obtain ⟨older, ho, rfl⟩ := he
    go_wp2
    refine leaves_cons (f := 157) (args := #[ptr w.heap.size]) (by simp) (by simp [go_sem]) ?_
    refine (try1_bad ⟨w.heap.size, 0, none⟩ _ t x older _ hc hz).mono ?_
    rintro e u' w' ⟨rfl, rfl, rfl⟩
    have hc2 := World.cell?_setCell_same _ ⟨w.heap.size, 0, none⟩ (.iface t x) hc
    simp only [settle_bad ho]
    refine ⟨.tuple #[.iface t x, .bool true], ?_, .bad t x, rfl, ?_⟩
    · simp [results, Tryz.results99, go_sem, hc2]
    · exact unhide HR _ ((Fr.refl (fun k => k = w.heap.size) w1).setCell (.inl rfl) _)

theorem try_fr {f : Value} {w : World} {F : Nat → Prop} {S : How → World → Prop} (hF : ∀ k, F k → k < w.heap.size)
    (hf : Acts f (w.alloc box) fun h w1 => Fr F (w.alloc box) w1 ∧ ∀ w2, Fr (fun k => k = w.heap.size) w1 w2 → S h w2) :
    Calls Tryz.prog 99 #[f] w fun e w' => ∃ h, e = .returned (.tuple #[h.v, .bool h.is]) ∧ S h w' := by
  refine try_raw (hf.mono fun h w1 ⟨fr, hS⟩ => ⟨?_, fun w2 f2 => hS w2 f2⟩)
  exact fr.obj (heap_alloc_new w box) fun h => Nat.lt_irrefl _ (hF _ h)

theorem taL_lost (w : World) : (Instr.typeAssert (.iface 154 (.agg #[])) 20 154 true).run Tryz.prog w = .ok (.tuple #[.agg #[], .bool true]) w := by kernel_rfl

set_option maxHeartbeats 800000 in
theorem onlyL_raw {f : Value} {w : World} {R : How → World → Prop} (K : ∀ w0, Still w w0 → Calls Tryz.prog 99 #[f] w0 fun e w' => ∃ h, e = .returned (.tuple #[h.v, .bool h.is]) ∧ R h w') (hk : ∀ h w', R h w' → h = .well ∨ h = .lost) :
    Calls Tryz.prog 101 #[f] w fun e w' => ∃ w1, Still w1 w' ∧ ((e = .returned (.tuple #[.agg #[], .bool false]) ∧ R .well w1) ∨ (e = .returned (.tuple #[.agg #[], .bool true]) ∧ R .lost w1)) := by
  have HK := hide (K _ ((Fr.refl _ w).alloc (.cells #[] 154))); clear K
  have a1 := taL_lost
  go_enter Tryz.func101, Tryz.ntmps101
  go_wp2_with fail
  refine (unhide HK).mono ?_
  rintro e w1 ⟨h, rfl, hR⟩
  have hK := hk _ _ hR
  have HR := hide hR; clear hR HK hk
  rcases hK with rfl | rfl
  · simp only [How.v, How.is]
    go_wp2
    refine bodyPost_ret (v := .tuple #[.agg #[], .bool false]) (by simp [results, Tryz.results101, go_sem, loadVar]) rfl ?_
    exact ⟨w1, Fr.refl _ _, .inl ⟨rfl, unhide HR⟩⟩
  · simp only [How.v, How.is]
    go_wp2
    refine bodyPost_ret (v := .tuple #[.agg #[], .bool true]) (by simp [results, Tryz.results101, go_sem, loadVar]) rfl ?_
    exact ⟨w1, (Fr.refl _ w1).alloc _, .inr ⟨rfl, unhide HR⟩⟩

theorem onlyL_two {f : Value} {w : World} {R0 R1 : World → Prop} (K : ∀ w0, Still w w0 → Calls Tryz.prog 99 #[f] w0 fun e w' => ∃ h : How, e = .returned (.tuple #[h.v, .bool h.is]) ∧ ((h = .well ∧ R0 w') ∨ (h = .lost ∧ R1 w'))) :
    Calls Tryz.prog 101 #[f] w fun e w' => ∃ w1, Still w1 w' ∧ ((e = .returned (.tuple #[.agg #[], .bool false]) ∧ R0 w1) ∨ (e = .returned (.tuple #[.agg #[], .bool true]) ∧ R1 w1)) := by
  refine (onlyL_raw K (fun h w' x => x.imp (fun y => y.1) (fun y => y.1))).mono ?_
  rintro e w' ⟨w1, f1, ⟨rfl, x⟩ | ⟨rfl, x⟩⟩
  · refine ⟨w1, f1, .inl ⟨rfl, ?_⟩⟩
    rcases x with ⟨_, x⟩ | ⟨e, _⟩
    · exact x
    · injection e with e; cases e
  · refine ⟨w1, f1, .inr ⟨rfl, ?_⟩⟩
    rcases x with ⟨e, _⟩ | ⟨_, x⟩
    · injection e with e; cases e
    · exact x

set_option maxHeartbeats 2000000 in
theorem each_two {lb : Nat} {f g : Value} {w : World} {I1 I2 : World → Prop} {S : How → World → Prop}
    (c0 : w.cell? ⟨lb, 0, none⟩ = some f) (hf : Calls Tryz.prog 99 #[f] w fun e w' => ∃ h : How, e = .returned (.tuple #[h.v, .bool h.is]) ∧ ((h = .well ∧ w'.cell? ⟨lb, 1, none⟩ = some g ∧ I1 w') ∨ (h.is = true ∧ S h w')))
    (hg : ∀ w1, I1 w1 → Calls Tryz.prog 99 #[g] w1 fun e w' => ∃ h : How, e = .returned (.tuple #[h.v, .bool h.is]) ∧ ((h = .well ∧ I2 w') ∨ (h.is = true ∧ S h w'))) :
    Calls Tryz.prog 50 #[.slice (some ⟨lb, 0, none⟩) 2 2] w fun e w' => ∃ k : Int, (e = .returned (.tuple #[.int .i64 k, .nilIface]) ∧ I2 w') ∨ ∃ h : How, e = .returned (.tuple #[.int .i64 k, h.v]) ∧ S h w' := by
  have HF := hide hf; have HG := @hide _ hg; have HC := hide c0
  clear hf hg c0
  go_enter Tryz.func50, Tryz.ntmps50
  go_wp2
  go_loopw [2, 10] (fun d i wr => (d = .int .i64 0 ∧ i = .int .i64 0 ∧ wr = w) ∨ (d = .int .i64 1 ∧ i = .int .i64 1 ∧ wr.cell? ⟨lb, 1, none⟩ = some g ∧ I1 wr) ∨ (d = .int .i64 2 ∧ i = .int .i64 2 ∧ I2 wr)) (fun d i wr => 2 - (intOf i).toNat)
  case atStart => exact .inl ⟨rfl, rfl, rfl⟩
  case round =>
    rcases hrel with ⟨rfl, rfl, hw⟩ | ⟨rfl, rfl, c, hI⟩ | ⟨rfl, rfl, hI⟩
    · subst hw
      have c := unhide HC
      clear HC
      go_wp2_with fail
      refine (unhide HF).mono ?_
      clear HF
      rintro e w1 ⟨h, rfl, hh | hh⟩
      · obtain ⟨rfl, c1, hI⟩ := hh
        simp only [How.v, How.is]
        have HI := hide (And.intro c1 hI)
        clear hI c c1
        go_wp2
        go_roundw
        case rel => exact .inr (.inl ⟨rfl, rfl, unhide HI⟩)
        case measure => simp [intOf]
      · obtain ⟨hi, hs⟩ := hh
        rw [hi]
        generalize hv : h.v = v
        have HV := hide hv; have HS := hide hs
        clear hs hv c hi
        go_wp2
        go_ret2
        exact ⟨_, .inr ⟨h, by rw [unhide HV]; rfl, unhide HS⟩⟩
    · have K := hide (unhide HG wr hI)
      clear hI HF HG HC
      go_wp2_with fail
      refine (unhide K).mono ?_
      clear K
      rintro e w1 ⟨h, rfl, hh | hh⟩
      · obtain ⟨rfl, hI⟩ := hh
        simp only [How.v, How.is]
        have HI := hide hI
        clear hI c
        go_wp2
        go_roundw
        case rel => exact .inr (.inr ⟨rfl, rfl, unhide HI⟩)
        case measure => simp [intOf]
      · obtain ⟨hi, hs⟩ := hh
        rw [hi]
        generalize hv : h.v = v
        have HV := hide hv; have HS := hide hs
        clear hs hv c hi
        go_wp2
        go_ret2
        exact ⟨_, .inr ⟨h, by rw [unhide HV]; rfl, unhide HS⟩⟩
    · have HI := hide hI
      clear hI HF HG HC
      go_wp2
      go_ret2
      exact ⟨_, .inl ⟨rfl, unhide HI⟩⟩
end

section
def Words64 (nu : Nat) (f : Nat → Int) : Prop := ∀ i, i < fi nu → 0 ≤ f i ∧ f i < 18446744073709551616

abbrev errnoQ (i : Int) : List PanicEntry := [{ v := .iface 33 (.int .i64 i), recovered := false }]

section
variable {nu sz : Nat} {w : World} {hb sb : Nat} {f : Nat → Int}

theorem and_bit (x j : Nat) (hx : x < 18446744073709551616) : bits .and .u64 ((x : Int) / 2 ^ j) 1 = ((x / 2 ^ j % 2 : Nat) : Int) := by
  have e : ((x : Int) / 2 ^ j) = ((x / 2 ^ j : Nat) : Int) := by simp
  rw [e, show (1 : Int) = ((1 : Nat) : Int) from rfl, u64_and_nat _ _ (Nat.lt_of_le_of_lt (Nat.div_le_self _ _) hx) (by omega), nat_mask1]

set_option maxHeartbeats 1000000 in
theorem h_isFree (h : HpL nu sz w hb sb) (rd : Rds sz w sb f) (wd : Words64 nu f) (k b : Nat) (hk : k < 7) (hb' : b < 64 * gr nu k) :
    Calls Tryz.prog 170 #[ptr hb, .int .i64 k, .int .i64 b] w fun e w' => e = .returned (.bool (decide (b < nu / 2 ^ k) && fre nu f k b)) ∧ ∃ q, w' = w.drewN q := by
  have c0 := h.c0; have ck := h.cb k hk
  obtain ⟨g1, g2, g3, g4, g5, g6⟩ := h.geo.b
  have BK : ∀ q, Calls Tryz.prog 146 #[ptr hb, .int .i64 k] (w.drewN q) _ := fun q => h_blocks hb k hk (w.drewN q) (by omega) h.c1
  have bl := Bw_lt hb'
  obtain ⟨r0, r1⟩ := wd (Bw nu k + b / 64) (by omega)
  have LD := fun q => rd q (Bw nu k + b / 64) (by omega)
  obtain ⟨x, hx⟩ : ∃ x : Nat, f (Bw nu k + b / 64) = x := ⟨(f (Bw nu k + b / 64)).toNat, by omega⟩
  have hfr : fre nu f k b = decide (x / 2 ^ (b % 64) % 2 = 1) := by
    unfold fre
    rw [decide_eq_true hb', Bool.true_and, hx, Int.toNat_natCast, Nat.testBit_eq_decide_div_mod_eq]
  have AB := and_bit x (b % 64) (by omega)
  have hb5 : b ≤ 4100 := by have := gr_le' nu k; omega
  have EB : ((x : Int) / 2 ^ (b % 64) % 2 != 0) = decide (x / 2 ^ (b % 64) % 2 = 1) := by
    have e : ((x : Int) / 2 ^ (b % 64) % 2) = ((x / 2 ^ (b % 64) % 2 : Nat) : Int) := by simp
    rw [e]
    rcases Nat.mod_two_eq_zero_or_one (x / 2 ^ (b % 64)) with e | e <;> rw [e] <;> rfl
  have EB := hide EB
  rw [hfr]
  have e2 : ((Bw nu k + b / 64 : Nat) : Int) = (Bw nu k : Int) + (b : Int) / 64 := by omega
  simp only [hx, e2] at LD
  have bl3 : Bw nu k + b / 64 ≤ 300 := by omega
  clear bl g1 g2 g3 g4 g6 hb'
  generalize Bw nu k = B at *
  have hn4 : nu / 2 ^ k ≤ 4000 := Nat.le_trans (Nat.div_le_self _ _) g5.2
  clear g5
  generalize nu / 2 ^ k = n at *
  have HLD := @hide _ LD
  have HBK := @hide _ BK
  clear LD h rd BK hfr wd
  go_enter Tryz.func170, Tryz.ntmps170
  by_cases hlt : b < n
  · have hlt' : ((b : Int) < n) = True := by simp; omega
    go_wp2_with fail
    refine region_tailP 26 (by kernel_rfl) (by kernel_rfl) ?_
    simp only [List.take_succ_cons, List.take_zero, List.drop_succ_cons, List.drop_zero]
    repeat (go_big_quiet_step (first | (go_at_call 62; exact Calls.quiet_of_same (unhide HLD _)) | (go_at_call 146; exact Calls.quiet_of_same (unhide HBK _))))
    refine wpQuiet_nil ?_
    rintro _ ⟨nq, rfl⟩
    clear HLD HBK
    go_wp2
    go_ret
    exact ⟨by rw [decide_eq_true hlt, Bool.true_and]; rfl, nq, rfl⟩
  · have hlt' : ((b : Int) < n) = False := by simp; omega
    go_wp2_with fail
    refine region_tailP 26 (by kernel_rfl) (by kernel_rfl) ?_
    simp only [List.take_succ_cons, List.take_zero, List.drop_succ_cons, List.drop_zero]
    repeat (go_big_quiet_step (first | (go_at_call 62; exact Calls.quiet_of_same (unhide HLD _)) | (go_at_call 146; exact Calls.quiet_of_same (unhide HBK _))))
    refine wpQuiet_nil ?_
    rintro _ ⟨nq, rfl⟩
    clear HLD HBK
    go_wp2
    go_ret
    exact ⟨by rw [decide_eq_false hlt, Bool.false_and]; rfl, nq, rfl⟩

theorem gr_eq {k : Nat} (hk : k < 7) : (((nu / 2 ^ k : Nat) : Int) + 64 - 1) / 64 = gr nu k := by
  rw [gr_div hk]
  generalize nu / 2 ^ k = x
  omega
theorem gr_le (g : Geo nu sz) (k : Nat) : gr nu k ≤ 63 := by have := gr_le' nu k; have := g.hi; omega
theorem fre_zero {k i : Nat} (h : ∀ j, j < i → f (Bw nu k + j) = 0) {b : Nat} (hb' : b / 64 < i) : fre nu f k b = false := by
  unfold fre
  rw [h _ hb']
  simp

set_option maxHeartbeats 2000000 in
theorem h_firstFree (h : HpL nu sz w hb sb) (rd : Rds sz w sb f) (wd : Words64 nu f) (k : Nat) (hk : k < 7) (hin : ∀ b, fre nu f k b = true → b < nu / 2 ^ k) :
    Calls Tryz.prog 197 #[ptr hb, .int .i64 k] w fun e w' => ((∃ b : Nat, e = .returned (.tuple #[.int .i64 b, .bool true]) ∧ fre nu f k b = true) ∨ (e = .returned (.tuple #[.int .i64 0, .bool false]) ∧ ∀ b, fre nu f k b = false)) ∧ Dr w w' := by
  obtain ⟨g1, g2, g3, g4, g5, g6⟩ := h.geo.b
  have BK := h_blocks hb k hk w (by omega) h.c1
  have GR := h_groups ((nu / 2 ^ k : Nat) : Int) 64 (Int.natCast_nonneg _) (by have : nu / 2 ^ k ≤ nu := Nat.div_le_self _ _; omega) (by omega) (by omega) w
  rw [gr_eq hk] at GR
  have g8 := gr_le h.geo k
  have HH := hide h; have HRD := hide rd; have HWD := hide wd; have HIN := hide hin
  have hn5 : nu / 2 ^ k ≤ 4000 := Nat.le_trans (Nat.div_le_self _ _) g5.2
  clear h rd wd hin
  go_enter Tryz.func197, Tryz.ntmps197
  go_wp2_with (first | (go_at_call 146; refine BK.mono ?_; rintro e w' ⟨rfl, hh⟩; replace hh := hh.symm; subst hh) | (go_at_call 144; refine GR.mono ?_; rintro e w' ⟨rfl, hh⟩; replace hh := hh.symm; subst hh))
  clear BK GR
  go_loopw [12] (fun i wr => ∃ m : Nat, m ≤ gr nu k ∧ i = .int .i64 m ∧ (∀ j, j < m → f (Bw nu k + j) = 0) ∧ Dr w wr) (fun i wr => gr nu k - (intOf i).toNat)
  case atStart => exact ⟨0, by omega, rfl, fun j hj => by omega, Dr.refl w⟩
  case round =>
    obtain ⟨m, hm, rfl, hz, hdr⟩ := hrel
    by_cases hlt : m < gr nu k
    · have bl := Bw_lt (nu := nu) (k := k) (b := 64 * m) (by omega)
      have em : 64 * m / 64 = m := by omega
      rw [em] at bl
      obtain ⟨r0, r1⟩ := unhide HWD (Bw nu k + m) (by omega)
      have LD := fun q => (unhide HRD).dr hdr q (Bw nu k + m) (by omega)
      have c0 := ((unhide HH).dr hdr).c0; have ck := ((unhide HH).dr hdr).cb k hk
      obtain ⟨x, hx⟩ : ∃ x : Nat, f (Bw nu k + m) = x := ⟨(f (Bw nu k + m)).toNat, by omega⟩
      have e2 : ((Bw nu k + m : Nat) : Int) = (Bw nu k : Int) + (m : Int) := by omega
      simp only [hx, e2] at LD
      have HLD := @hide _ LD
      have hx64 : x < 18446744073709551616 := by omega
      have HZ := hide hz; have HDR := hide hdr; have HX := hide hx
      have bl3 : Bw nu k + m ≤ 300 := by omega
      have hn4 := g5.2
      clear LD hz hdr hx g1 g2 g3 g4 g5 g6 bl em e2
      generalize hB : Bw nu k = B at *
      have HB := hide hB
      clear hB
      go_wp2_with fail
      refine region_tailP 13 (by kernel_rfl) (by kernel_rfl) ?_
      simp only [List.take_succ_cons, List.take_zero, List.drop_succ_cons, List.drop_zero]
      repeat (go_big_quiet_step (first | (go_at_call 62; exact Calls.quiet_of_same (unhide HLD _))))
      refine wpQuiet_nil ?_
      rintro _ ⟨nq, rfl⟩
      clear HLD c0 ck
      have HDR2 := hide ((unhide HDR).trans ⟨nq, rfl⟩)
      by_cases hx0 : x = 0
      · subst hx0
        go_wp2
        refine ⟨⟨m + 1, by omega, by go_num, fun j hj => ?_, unhide HDR2⟩, by simp [intOf]; omega⟩
        by_cases e : j = m
        · subst e; exact unhide HX
        · exact unhide HZ j (by omega)
      · have hx0' : ((x : Int) != 0) = true := by simp; omega
        have TZ := tz_ok x hx64 hx0 (wr.drewN nq) ((unhide HH).dr (unhide HDR2)).tab
        obtain ⟨cb1, cb2⟩ := ctz_bit x hx64 hx0
        have hfr : fre nu f k (64 * m + Lib.ctz 64 x) = true := by
          unfold fre
          have e1 : (64 * m + Lib.ctz 64 x) / 64 = m := by omega
          have e2 : (64 * m + Lib.ctz 64 x) % 64 = Lib.ctz 64 x := by omega
          rw [e1, e2, unhide HB, unhide HX, Int.toNat_natCast, cb1, decide_eq_true (by omega)]; rfl
        have hlt2 := unhide HIN _ hfr
        have BK : Calls Tryz.prog 146 #[ptr hb, .int .i64 k] (wr.drewN nq) _ := h_blocks hb k hk _ (by omega) ((unhide HH).dr (unhide HDR2)).c1
        have HFR := hide hfr
        clear hfr cb1 HX HB HZ hx0
        generalize Lib.ctz 64 x = c at *
        have e47 : ((nu / 2 ^ k : Nat) : Int) = nu / 2 ^ k := by simp
        have hlt3 : 64 * (m : Int) + c < nu / 2 ^ k := by rw [← e47]; omega
        clear e47
        go_wp2_with (first | (go_at_call 146; refine BK.mono ?_; rintro e w' ⟨rfl, hh⟩; replace hh := hh.symm; subst hh) | (go_at_call 147; refine TZ.mono ?_; rintro e w' ⟨rfl, hh⟩; replace hh := hh.symm; subst hh))
        go_ret2
        exact ⟨.inl ⟨64 * m + c, by simp, unhide HFR⟩, unhide HDR2⟩
    · have : m = gr nu k := by omega
      subst this
      have HZ := hide hz; have HDR := hide hdr
      clear hz hdr
      go_wp2
      go_ret2
      refine ⟨.inr ⟨rfl, fun b => ?_⟩, unhide HDR⟩
      by_cases hb2 : b < 64 * gr nu k
      · exact fre_zero (unhide HZ) (by omega)
      · unfold fre; simp [hb2]
end
end

section
section
variable {nu sz : Nat} {w : World} {hb sb : Nat} {f : Nat → Int}

set_option maxHeartbeats 1000000 in
theorem h_piece (h : HpL nu sz w hb sb) (rd : Rds sz w sb f) (wd : Words64 nu f) (u : Nat) (hu : u < nu) :
    Calls Tryz.prog 117 #[ptr hb, .int .i64 (fi nu + u * 8)] w fun e w' => ((begs nu (ask nu f) u = true ∧ e = .returned (.tuple #[.int .i64 u, .int .i64 (ask nu f u)])) ∨ (begs nu (ask nu f) u = false ∧ e = .panicked (errnoQ 1))) ∧ Dr w w' := by
  have c1 := h.c1; have c10 := h.c10
  obtain ⟨g1, g2, g3, g4, g5, g6⟩ := h.geo.b
  have AL : ∀ q, Calls Tryz.prog 154 #[ptr hb] (w.drewN q) fun e w' => e = .returned (.int .i64 (nu * 8)) ∧ w' = w.drewN q := fun q => h_all hb nu (by omega) (w.drewN q) c1
  have HAL := @hide _ AL
  obtain ⟨r0, r1⟩ := wd (aw nu + u / 4) (by omega)
  have e1 : (((fi nu : Int) + (u : Int) * 8) < fi nu) = False := by simp; omega
  have e2 : ((fi nu : Int) + (nu : Int) * 8 ≤ (fi nu : Int) + (u : Int) * 8) = False := by simp; omega
  have f8 := fi_8 nu
  have e3 : ((fi nu : Int) % 8 != 0) = false := by simp; omega
  have e4 : ((fi nu : Int) + (u : Int) * 8 - fi nu) / 8 = u := by omega
  have HH := hide h; have HRD := hide rd; have HR := hide (And.intro r0 r1)
  have hq4 : u < 4 * qa nu := by omega
  have hF := g2.2; have hn4 := g5.2
  clear AL h rd wd r0 r1 g1 g2 g3 g4 g5 g6 f8
  go_enter Tryz.func117, Tryz.ntmps117
  go_wp2_with fail
  refine region_tailP 21 (by kernel_rfl) (by kernel_rfl) ?_
  simp only [List.take_succ_cons, List.take_zero, List.drop_succ_cons, List.drop_zero]
  repeat (go_big_quiet_step (first | (go_at_call 154; exact Calls.quiet_of_same (unhide HAL _))))
  refine wpQuiet_nil ?_
  rintro _ ⟨nq, rfl⟩
  clear HAL e1 e2 e3
  have D1 : Dr w (w.drewN nq) := ⟨nq, rfl⟩
  have BG := h_begins ((unhide HH).dr D1) ((unhide HRD).dr D1) u hq4 (unhide HR).1 (unhide HR).2
  have HBG := hide BG
  have c10' := ((unhide HH).dr D1).c10
  generalize w.drewN nq = w1 at *
  clear BG c1 c10
  go_wp2_with fail
  refine (unhide HBG).mono ?_
  clear HBG
  rintro e w2 ⟨rfl, D2⟩
  have D12 := D1.trans D2
  have AK := h_asked ((unhide HH).dr D12) ((unhide HRD).dr D12) u hq4 (unhide HR).1 (unhide HR).2
  have HAK := hide AK; have HD := hide D12
  clear AK D12 D1 D2 HH HRD HR c10'
  cases hbg : begs nu (ask nu f) u
  · go_wp2
    exact ⟨rfl, .inr ⟨hbg, rfl⟩, unhide HD⟩
  · go_wp2_with fail
    refine (unhide HAK).mono ?_
    clear HAK
    rintro e w3 ⟨rfl, D3⟩
    have HD3 := hide ((unhide HD).trans D3)
    clear D3 HD
    go_wp2
    go_ret2
    exact ⟨.inl ⟨hbg, rfl⟩, unhide HD3⟩

set_option maxHeartbeats 400000 in
theorem h_size (h : HpL nu sz w hb sb) (rd : Rds sz w sb f) (wd : Words64 nu f) (u : Nat) (hu : u < nu) (hbg : begs nu (ask nu f) u = true) :
    Calls Tryz.prog 114 #[ptr hb, .int .i64 (fi nu + u * 8)] w fun e w' => e = .returned (.int .i64 (ask nu f u)) ∧ Dr w w' := by
  have HK := hide (h_piece h rd wd u hu)
  clear h rd wd
  go_enter Tryz.func114, Tryz.ntmps114
  go_wp2_with fail
  refine (unhide HK).mono ?_
  clear HK
  rintro e w1 ⟨⟨_, rfl⟩ | ⟨hb', _⟩, D⟩
  · have HD := hide D
    clear D
    go_wp2
    go_ret
    exact ⟨rfl, unhide HD⟩
  · rw [hbg] at hb'; cases hb'

set_option maxHeartbeats 400000 in
theorem h_free (h : HpL nu sz w hb sb) (rd : Rds sz w sb f) (x : Nat) (hx : x ≤ 8 * nu) (hf : f 1 = x) :
    Calls Tryz.prog 17 #[ptr hb] w fun e w' => e = .returned (.int .i64 x) ∧ w' = w := by
  have c0 := h.c0
  obtain ⟨g1, g2, g3, g4, g5, g6⟩ := h.geo.b
  have LD : Calls Tryz.prog 62 #[ptr sb, .int .i64 1] w _ := rd 0 1 (by omega)
  rw [hf] at LD
  have HLD := hide LD
  have hw := small_w64 (x := (x : Int)) (by omega)
  clear LD h rd
  go_enter Tryz.func17, Tryz.ntmps17
  go_wp2_with (go_at_call 62; refine (unhide HLD).mono ?_; rintro e w' ⟨rfl, hh⟩; replace hh := hh.symm; subst hh)
  go_ret
  exact ⟨by simp, rfl⟩

end
end
end Go.Proofs.YtflnaiijdpihcaaGreatDoor
