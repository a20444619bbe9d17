/- The guards: call, Try, Only, Each, each said of whatever function value it is handed. -/
import Derived.Test.YtamghkabclbkgaaTellD
import Derived.Test.YtamghkabclbkgaaBox
import Derived.LoopTactic
import Derived.Laws.EntriesVeiled
namespace Go.Proofs.Ytamghkabclbkgaa
open Go.RowKit

/-- No old block turned. -/
abbrev Still (w w' : World) : Prop := Fr (fun _ => False) w w'
theorem Fr.obj {F : Nat → Prop} {w w' : World} (h : Fr F w w') {k : Nat} {o : Obj} (hv : w.heap[k]? = some o) (hF : ¬ F k) : w'.heap[k]? = some o :=
  (h.block k (by rcases Nat.lt_or_ge k w.heap.size with hk | hk; exact hk; rw [Array.getElem?_eq_none hk] at hv; cases hv) hF).trans hv
theorem cell_of_obj {w : World} {k : Nat} {cs : Array Value} {t : Nat} {z : Nat × Nat} (h : w.heap[k]? = some (.cells cs t z)) (i : Nat) : w.cell? ⟨k, i, none⟩ = cs[i]? := by
  simp [World.cell?, h]
theorem frozen_of_obj {w : World} {k : Nat} {cs : Array Value} {t : Nat} (h : w.heap[k]? = some (.cells cs t)) (i : Nat) : w.frozen? ⟨k, i, none⟩ = false := by
  simp [World.frozen?, h]

/-- How a call of a function without results ended: well (none), or by a panic with a value of a type. -/
structure How where
  o : Option (Nat × Value)

abbrev How.well : How := ⟨none⟩
abbrev How.bad (t : Nat) (x : Value) : How := ⟨some (t, x)⟩
/-- An error of ours, the power gone, a text. -/
abbrev How.errno (i : Int) : How := .bad 36 (.int .i64 i)
abbrev How.lost : How := .bad 56 (.agg #[])

theorem How.byCases {motive : How → Prop} (h : How) (well : motive .well) (bad : ∀ t x, motive (.bad t x)) : motive h := by
  obtain ⟨o⟩ := h
  rcases o with _ | ⟨t, x⟩
  · exact well
  · exact bad t x

/-- What a guard tells of it. -/
def How.v (h : How) : Value :=
  match h.o with
  | none => .nilIface
  | some (t, x) => .iface t x
def How.is (h : How) : Bool :=
  match h.o with
  | none => false
  | some _ => true
/-- The call's end. -/
def How.ended (h : How) (e : Ending) : Prop :=
  match h.o with
  | none => e = .returned (.tuple #[])
  | some (t, x) => ∃ older, (∀ y ∈ older, y.goexit = false) ∧ e = .panicked ({ v := .iface t x, recovered := false } :: older)

theorem How.ended_one (t : Nat) (x : Value) : (How.bad t x).ended (.panicked [{ v := .iface t x, recovered := false }]) := ⟨[], by simp, rfl⟩

/-- The function value f is nil or is run from w so that R tells how it ended and what the world is then. -/
def Acts (f : Value) (w : World) (R : How → World → Prop) : Prop :=
  (f = .nilFunc ∧ R .well w) ∨ ∃ g first cap, f = .func (.func g) first cap ∧ Enters g ∧ Calls Try.prog g (first ++ cap) w fun e w' => ∃ h, h.ended e ∧ R h w'

theorem Acts.mono {f : Value} {w : World} {R R' : How → World → Prop} (h : Acts f w R) (hr : ∀ h w', R h w' → R' h w') : Acts f w R' := by
  rcases h with ⟨rfl, h⟩ | ⟨g, first, cap, rfl, he, h⟩
  · exact .inl ⟨rfl, hr _ _ h⟩
  · exact .inr ⟨g, first, cap, rfl, he, h.mono fun e w' ⟨x, h1, h2⟩ => ⟨x, h1, hr _ _ h2⟩⟩
theorem acts_of {g : Nat} {first cap : Array Value} {w : World} {R : How → World → Prop} (he : Enters g) (h : Calls Try.prog g (first ++ cap) w fun e w' => ∃ h, h.ended e ∧ R h w') : Acts (.func (.func g) first cap) w R :=
  .inr ⟨g, first, cap, rfl, he, h⟩

theorem settle_bad {t : Nat} {x : Value} {older : List PanicEntry} (h : ∀ y ∈ older, y.goexit = false) : settle (.panicking ({ v := .iface t x, recovered := true } :: older)) = .returning := by
  have e : older.dropWhile (fun y => !y.goexit) = [] := by
    induction older with
    | nil => rfl
    | cons a l ih => rw [List.dropWhile_cons_of_pos (by simp [h a (by simp)])]; exact ih fun y hy => h y (by simp [hy])
  simp [settle, e]

theorem mf (fn : Fn) (first cap : Array Value) (w : World) : (Instr.makeFunc fn first cap).run Try.prog w = .ok (.func fn first cap) w := rfl
theorem nn_some (fn : Fn) (first cap : Array Value) (w : World) : (binOp .neq 1 (.func fn first cap) .nilFunc).run Try.prog w = .ok (.bool true) w := by kernel_rfl
theorem nn_nil (w : World) : (binOp .neq 1 .nilFunc .nilFunc).run Try.prog w = .ok (.bool false) w := by kernel_rfl

set_option maxHeartbeats 400000 in
theorem call_nil (w : World) : Calls Try.prog 69 #[.nilFunc] w fun e w' => e = .returned (.tuple #[]) ∧ w' = w := by
  have h1 := nn_nil
  go_enter Try.func69, Try.ntmps69
  go_wp2
  go_end0
  exact ⟨rfl, rfl⟩

set_option maxHeartbeats 400000 in
theorem call_some {g : Nat} (hg : Enters g) {first cap : Array Value} {w : World} {R : How → World → Prop} (hf : Calls Try.prog g (first ++ cap) w fun e w' => ∃ h, h.ended e ∧ R h w') :
    Calls Try.prog 69 #[.func (.func g) first cap] w fun e w' => ∃ h, h.ended e ∧ R h w' := by
  have HF := hide hf; clear hf
  have h1 := nn_some
  unfold Enters at hg
  go_enter Try.func69, Try.ntmps69
  go_wp2_with fail
  refine (unhide HF).mono ?_
  rintro e w1 ⟨h, he, hR⟩
  have HR := hide hR; clear hR HF
  cases h using How.byCases with
  | well =>
    cases he
    go_wp2
    go_end0
    exact ⟨.well, rfl, unhide HR⟩
  | bad t x =>
    obtain ⟨older, ho, rfl⟩ := he
    exact ⟨rfl, .bad t x, ⟨older, ho, rfl⟩, unhide HR⟩

theorem call_acts {f : Value} {w : World} {R : How → World → Prop} (h : Acts f w R) : Calls Try.prog 69 #[f] w fun e w' => ∃ h, h.ended e ∧ R h w' := by
  rcases h with ⟨rfl, h⟩ | ⟨g, first, cap, rfl, he, h⟩
  · exact (call_nil w).mono fun e w' ⟨h1, h2⟩ => ⟨.well, h1, h2 ▸ h⟩
  · exact call_some he h

set_option maxHeartbeats 400000 in
theorem try1_idle (p : Addr) (v : Value) (w : World) (hc : w.cell? p = some v) (hz : w.frozen? p = false) :
    CallsD Try.prog 68 #[.pointer (some p)] .returning w fun e u' w' => e = .returned (.tuple #[]) ∧ u' = .returning ∧ w' = w.setCell p .nilIface := by
  refine callsD_of_wpS Try.func68 rfl fun c₀ cs hu => ?_
  apply wpS_region
  simp [wpOpsS, go_sem, recoverD, hu, Try.ntmps68, hc, hz, Oper.upon]
  cases c₀
  simp_all [bodyPostS, results, Try.results68]

set_option maxHeartbeats 400000 in
theorem try1_bad (p : Addr) (v : Value) (t : Nat) (x : Value) (older : List PanicEntry) (w : World) (hc : w.cell? p = some v) (hz : w.frozen? p = false) :
    CallsD Try.prog 68 #[.pointer (some p)] (.panicking ({ v := .iface t x, recovered := false } :: older)) w fun e u' w' =>
      e = .returned (.tuple #[]) ∧ u' = .panicking ({ v := .iface t x, recovered := true } :: older) ∧ w' = w.setCell p (.iface t x) := by
  refine callsD_of_wpS Try.func68 rfl fun c₀ cs hu => ?_
  apply wpS_region
  simp [wpOpsS, go_sem, recoverD, hu, Try.ntmps68, hc, hz, Oper.upon]
  cases c₀
  simp_all [bodyPostS, results, Try.results68]

/-- The box of the told value. -/
abbrev box : Obj := .cells #[.nilIface] 20

set_option maxHeartbeats 400000 in
theorem try_raw {f : Value} {w : World} {R : How → World → Prop}
    (hf : Acts f (w.alloc box) fun h w1 => w1.heap[w.heap.size]? = some box ∧ ∀ w2, Fr (fun k => k = w.heap.size) w1 w2 → R h w2) :
    Calls Try.prog 59 #[f] w fun e w' => ∃ h, e = .returned (.tuple #[h.v, .bool h.is]) ∧ R h w' := by
  have K := call_acts hf
  clear hf
  have h1 := mf
  have HK := hide K; clear K
  go_enter_defers Try.func59, Try.ntmps59
  go_wp2_with fail
  refine (unhide HK).mono ?_
  rintro e w1 ⟨h, he, hb, hR⟩
  have HR := hide hR; clear hR HK
  have hc := cell_of_obj hb 0
  have hz := frozen_of_obj hb 0
  cases h using How.byCases with
  | well =>
    cases he
    go_wp2
    have hc1 := World.cell?_setCell_same w1 ⟨w.heap.size, 0, none⟩ .nilIface hc
    refine leaves_cons (f := 68) (args := #[ptr w.heap.size]) (by simp) (by simp [go_sem]) ?_
    refine (try1_idle ⟨w.heap.size, 0, none⟩ _ _ hc1 (by simpa using hz)).mono ?_
    rintro e u' w' ⟨rfl, rfl, rfl⟩
    have hc2 := World.cell?_setCell_same _ ⟨w.heap.size, 0, none⟩ .nilIface hc1
    refine ⟨.tuple #[.nilIface, .bool false], ?_, .well, rfl, ?_⟩
    · simp [results, Try.results59, go_sem, hc2]
    · exact unhide HR _ (((Fr.refl (fun k => k = w.heap.size) w1).setCell (.inl rfl) _).setCell (.inl rfl) _)
  | bad t x =>
    obtain ⟨older, ho, rfl⟩ := he
    go_wp2
    refine leaves_cons (f := 68) (args := #[ptr w.heap.size]) (by simp) (by simp [go_sem]) ?_
    refine (try1_bad ⟨w.heap.size, 0, none⟩ _ t x older _ hc hz).mono ?_
    rintro e u' w' ⟨rfl, rfl, rfl⟩
    have hc2 := World.cell?_setCell_same _ ⟨w.heap.size, 0, none⟩ (.iface t x) hc
    simp only [settle_bad ho]
    refine ⟨.tuple #[.iface t x, .bool true], ?_, .bad t x, rfl, ?_⟩
    · simp [results, Try.results59, go_sem, hc2]
    · exact unhide HR _ ((Fr.refl (fun k => k = w.heap.size) w1).setCell (.inl rfl) _)

/-- Try where f turns only blocks of F. -/
theorem try_fr {f : Value} {w : World} {F : Nat → Prop} {S : How → World → Prop} (hF : ∀ k, F k → k < w.heap.size)
    (hf : Acts f (w.alloc box) fun h w1 => Fr F (w.alloc box) w1 ∧ ∀ w2, Fr (fun k => k = w.heap.size) w1 w2 → S h w2) :
    Calls Try.prog 59 #[f] w fun e w' => ∃ h, e = .returned (.tuple #[h.v, .bool h.is]) ∧ S h w' := by
  refine try_raw (hf.mono fun h w1 ⟨fr, hS⟩ => ⟨?_, fun w2 f2 => hS w2 f2⟩)
  exact fr.obj (heap_alloc_new w box) fun h => Nat.lt_irrefl _ (hF _ h)

theorem taL_lost (w : World) : (Instr.typeAssert (.iface 56 (.agg #[])) 20 56 true).run Try.prog w = .ok (.tuple #[.agg #[], .bool true]) w := by kernel_rfl

set_option maxHeartbeats 800000 in
/-- Only about what ends well or finds the power gone. -/
theorem onlyL_raw {f : Value} {w : World} {R : How → World → Prop} (K : ∀ w0, Still w w0 → Calls Try.prog 59 #[f] w0 fun e w' => ∃ h, e = .returned (.tuple #[h.v, .bool h.is]) ∧ R h w') (hk : ∀ h w', R h w' → h = .well ∨ h = .lost) :
    Calls Try.prog 41 #[f] w fun e w' => ∃ w1, Still w1 w' ∧ ((e = .returned (.tuple #[.agg #[], .bool false]) ∧ R .well w1) ∨ (e = .returned (.tuple #[.agg #[], .bool true]) ∧ R .lost w1)) := by
  have HK := hide (K _ ((Fr.refl _ w).alloc (.cells #[] 56))); clear K
  have a1 := taL_lost
  go_enter Try.func41, Try.ntmps41
  go_wp2_with fail
  refine (unhide HK).mono ?_
  rintro e w1 ⟨h, rfl, hR⟩
  have hK := hk _ _ hR
  have HR := hide hR; clear hR HK hk
  rcases hK with rfl | rfl
  · simp only [How.v, How.is]
    go_wp2
    refine bodyPost_ret (v := .tuple #[.agg #[], .bool false]) (by simp [results, Try.results41, go_sem, loadVar]) rfl ?_
    exact ⟨w1, Fr.refl _ _, .inl ⟨rfl, unhide HR⟩⟩
  · simp only [How.v, How.is]
    go_wp2
    refine bodyPost_ret (v := .tuple #[.agg #[], .bool true]) (by simp [results, Try.results41, go_sem, loadVar]) rfl ?_
    exact ⟨w1, (Fr.refl _ w1).alloc _, .inr ⟨rfl, unhide HR⟩⟩

theorem onlyL_two {f : Value} {w : World} {R0 R1 : World → Prop} (K : ∀ w0, Still w w0 → Calls Try.prog 59 #[f] w0 fun e w' => ∃ h : How, e = .returned (.tuple #[h.v, .bool h.is]) ∧ ((h = .well ∧ R0 w') ∨ (h = .lost ∧ R1 w'))) :
    Calls Try.prog 41 #[f] w fun e w' => ∃ w1, Still w1 w' ∧ ((e = .returned (.tuple #[.agg #[], .bool false]) ∧ R0 w1) ∨ (e = .returned (.tuple #[.agg #[], .bool true]) ∧ R1 w1)) := by
  refine (onlyL_raw K (fun h w' x => x.imp (fun y => y.1) (fun y => y.1))).mono ?_
  rintro e w' ⟨w1, f1, ⟨rfl, x⟩ | ⟨rfl, x⟩⟩
  · refine ⟨w1, f1, .inl ⟨rfl, ?_⟩⟩
    rcases x with ⟨_, x⟩ | ⟨e, _⟩
    · exact x
    · injection e with e; cases e
  · refine ⟨w1, f1, .inr ⟨rfl, ?_⟩⟩
    rcases x with ⟨e, _⟩ | ⟨_, x⟩
    · injection e with e; cases e
    · exact x

set_option maxHeartbeats 2000000 in
/-- Each over two function values that lie in block lb: f well, then g; S: how it ended at the first that panicked. -/
theorem each_two {lb : Nat} {f g : Value} {w : World} {I1 I2 : World → Prop} {S : How → World → Prop}
    (c0 : w.cell? ⟨lb, 0, none⟩ = some f) (hf : Calls Try.prog 59 #[f] w fun e w' => ∃ h : How, e = .returned (.tuple #[h.v, .bool h.is]) ∧ ((h = .well ∧ w'.cell? ⟨lb, 1, none⟩ = some g ∧ I1 w') ∨ (h.is = true ∧ S h w')))
    (hg : ∀ w1, I1 w1 → Calls Try.prog 59 #[g] w1 fun e w' => ∃ h : How, e = .returned (.tuple #[h.v, .bool h.is]) ∧ ((h = .well ∧ I2 w') ∨ (h.is = true ∧ S h w'))) :
    Calls Try.prog 55 #[.slice (some ⟨lb, 0, none⟩) 2 2] w fun e w' => ∃ k : Int, (e = .returned (.tuple #[.int .i64 k, .nilIface]) ∧ I2 w') ∨ ∃ h : How, e = .returned (.tuple #[.int .i64 k, h.v]) ∧ S h w' := by
  have HF := hide hf; have HG := @hide _ hg; have HC := hide c0
  clear hf hg c0
  go_enter Try.func55, Try.ntmps55
  go_wp2
  go_loopw [2, 10] (fun d i wr => (d = .int .i64 0 ∧ i = .int .i64 0 ∧ wr = w) ∨ (d = .int .i64 1 ∧ i = .int .i64 1 ∧ wr.cell? ⟨lb, 1, none⟩ = some g ∧ I1 wr) ∨ (d = .int .i64 2 ∧ i = .int .i64 2 ∧ I2 wr)) (fun d i wr => 2 - (intOf i).toNat)
  case atStart => exact .inl ⟨rfl, rfl, rfl⟩
  case round =>
    rcases hrel with ⟨rfl, rfl, hw⟩ | ⟨rfl, rfl, c, hI⟩ | ⟨rfl, rfl, hI⟩
    · subst hw
      have c := unhide HC
      clear HC
      go_wp2_with fail
      refine (unhide HF).mono ?_
      clear HF
      rintro e w1 ⟨h, rfl, hh | hh⟩
      · obtain ⟨rfl, c1, hI⟩ := hh
        simp only [How.v, How.is]
        have HI := hide (And.intro c1 hI)
        clear hI c c1
        go_wp2
        go_roundw
        case rel => exact .inr (.inl ⟨rfl, rfl, unhide HI⟩)
        case measure => simp [intOf]
      · obtain ⟨hi, hs⟩ := hh
        rw [hi]
        generalize hv : h.v = v
        have HV := hide hv; have HS := hide hs
        clear hs hv c hi
        go_wp2
        go_ret2
        exact ⟨_, .inr ⟨h, by rw [unhide HV]; rfl, unhide HS⟩⟩
    · have K := hide (unhide HG wr hI)
      clear hI HF HG HC
      go_wp2_with fail
      refine (unhide K).mono ?_
      clear K
      rintro e w1 ⟨h, rfl, hh | hh⟩
      · obtain ⟨rfl, hI⟩ := hh
        simp only [How.v, How.is]
        have HI := hide hI
        clear hI c
        go_wp2
        go_roundw
        case rel => exact .inr (.inr ⟨rfl, rfl, unhide HI⟩)
        case measure => simp [intOf]
      · obtain ⟨hi, hs⟩ := hh
        rw [hi]
        generalize hv : h.v = v
        have HV := hide hv; have HS := hide hs
        clear hs hv c hi
        go_wp2
        go_ret2
        exact ⟨_, .inr ⟨h, by rw [unhide HV]; rfl, unhide HS⟩⟩
    · have HI := hide hI
      clear hI HF HG HC
      go_wp2
      go_ret2
      exact ⟨_, .inl ⟨rfl, unhide HI⟩⟩
end Go.Proofs.Ytamghkabclbkgaa
