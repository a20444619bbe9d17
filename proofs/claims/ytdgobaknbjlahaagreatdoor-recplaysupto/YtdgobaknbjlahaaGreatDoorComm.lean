/- Commit, Abort, Do. -/
import Derived.Test.YtdgobaknbjlahaaGreatDoorStor
import Derived.Test.YtdgobaknbjlahaaGreatDoorRdD
namespace Go.Proofs.YtdgobaknbjlahaaGreatDoor
open Go.RowKit

section
variable {w w' w0 : World} {sb b : Nat} {T T0 : Tay} {n : Nat} {A A' : Ab} {P : List (Int × Int)} {dd : Bool} {L' : Lay} {N : Nat} {free : Prop} {s : Int} {f base : Nat → Int}

/-- Only the device has turned. -/
theorem StL.ondev (h : StL w sb b T n A P dd) (o : On w b T.L w' L' A') (hn : A'.n = A.n) : Onx w sb b T w' { T with L := L' } n A' P dd := by
  have ltsb : sb < w.heap.size := h.lt _ (.inr (.inl rfl))
  have ltlg : T.lg < w.heap.size := h.lt _ (.inr (.inr (.inl rfl)))
  have ltmb : T.mb < w.heap.size := h.lt _ (.inr (.inr (.inr (.inl rfl))))
  have eb : w'.heap[sb]? = w.heap[sb]? := o.fr.block _ ltsb h.nsb
  have cb : ∀ q, w'.cell? ⟨sb, q, none⟩ = w.cell? ⟨sb, q, none⟩ := fun q => World.cell?_of_block eb
  have em : w'.heap[T.mb]? = w.heap[T.mb]? := o.fr.block _ ltmb h.nmb
  refine ⟨?_, o.fr.mono (fun k hk => .inl (.inl hk)), ?_⟩
  · refine { dev := o.d, log := h.log.kept o.fr h.nlg, words := by rw [hn]; exact h.words, c0 := ?_, c1 := ?_, c2 := ?_, c3 := ?_, c4 := ?_, c5 := ?_, zs := ?_, own := ?_, map := ?_, few := h.few, keys := h.keys, nsb := o.other ltsb h.nsb, nlg := o.other ltlg h.nlg, nmb := o.other ltmb h.nmb, nsv := ?_, lgsb := h.lgsb, mbsb := h.mbsb, mblg := h.mblg }
    · rw [cb]; exact h.c0
    · rw [cb]; exact h.c1
    · rw [cb]; exact h.c2
    · rw [cb]; exact h.c3
    · rw [cb]; exact h.c4
    · rw [cb]; exact h.c5
    · intro q; rw [World.frozen?_of_block (a := ⟨sb, q, none⟩) eb]; exact h.zs q
    · exact owns_same h.own fun k hk => o.fr.block k (h.own.lt k hk).2 (h.nsv k hk).1
    · obtain ⟨D, h1, h2⟩ := h.map
      exact ⟨D, ownsMap_block h1 em o.fr.size, h2⟩
    · intro k hk
      obtain ⟨a1, a2, a3, a4⟩ := h.nsv k hk
      exact ⟨o.other (h.own.lt k hk).2 a1, a2, a3, a4⟩
  · rintro k (hk | hk | hk | hk | hk)
    · exact (o.sub k hk).imp .inl id
    · exact .inl (.inr (.inl hk))
    · exact .inl (.inr (.inr (.inl hk)))
    · exact .inl (.inr (.inr (.inr (.inl hk))))
    · exact .inl (.inr (.inr (.inr (.inr hk))))

theorem StL.once (h : StL w sb b T n A P dd) : Once P := by obtain ⟨D, _, h2⟩ := h.map; exact h2.once

/-- The log's Commit of what was put. -/
theorem log_commit (h : StL w sb b T n A P dd) (c : Calm N free A s f) (hc : Clean 0 12304 base f) (hs : s + 5 * P.length + 9 < 4294967296) :
    Calls Tryz.prog 55 #[ptr T.lg, T.sv] w fun e w' =>
      (e = .returned (.int .i64 0) ∧ DM w b T.L w' fun A' => A'.n = A.n ∧ ∃ f', Calm N free A' (s + 5 * P.length + 9) f' ∧ Clean 0 12304 (homed P base) f') ∨
      (e = .panicked lost ∧ DM w b T.L w' fun A' => A'.n = A.n ∧ ¬ free ∧ LogTorn N 0 12304 base P (s + 5 * P.length + 9) A') := by
  have hn := c.n
  rcases h.form with ⟨e1, e2⟩ | ⟨g, cap, e1⟩
  · rw [e1]
    subst e2
    refine (commit_none h.log (by omega) (by omega) none 0).mono ?_
    rintro e w' ⟨rfl, rfl⟩
    exact .inl ⟨rfl, DM.refl h.dev ⟨rfl, f, c.more (by simp; omega), by rw [homed_nil]; exact hc⟩⟩
  · by_cases hp : P = []
    · subst hp
      rw [e1]
      refine (commit_none h.log (by omega) (by omega) (some ⟨g, 0, none⟩) cap).mono ?_
      rintro e w' ⟨rfl, rfl⟩
      exact .inl ⟨rfl, DM.refl h.dev ⟨rfl, f, c.more (by simp; omega), by rw [homed_nil]; exact hc⟩⟩
    · have own := h.own
      rw [e1] at own ⊢
      have few := h.few
      have n8 := h.dev.n8
      have words := h.words
      have tk : Takes N 0 12304 P := ⟨hp, fun x hx => by
        have := h.keys x hx
        exact ⟨by omega, by omega, by omega⟩, by omega, by omega⟩
      refine (commit_ok h.dev h.log h.nlg c hc g 0 cap P (owns_wr own) (h.nsv g (by rw [e1]; rfl)).1 tk (by omega) (by omega) hs).mono ?_
      rintro e w' (⟨rfl, D⟩ | ⟨rfl, D⟩)
      · exact .inl ⟨rfl, D.mono fun A' ⟨f', c', l'⟩ => ⟨c'.n.trans hn.symm, f', c', by rw [once_reverse h.once] at l'; exact l'⟩⟩
      · exact .inr ⟨rfl, D.mono fun A' ⟨n, t⟩ => ⟨t.1.trans hn.symm, n, t⟩⟩

set_option maxHeartbeats 1000000 in
theorem commit_clo {bx : Nat} (h : StL w sb b T n A P dd) (c : Calm N free A s f) (hc : Clean 0 12304 base f) (hs : s + 5 * P.length + 9 < 4294967296) (hb : w.cell? ⟨bx, 0, none⟩ = some (ptr sb)) :
    Calls Tryz.prog 54 #[ptr bx] w fun e w' =>
      (e = .returned (.tuple #[]) ∧ DM w b T.L w' fun A' => A'.n = A.n ∧ ∃ f', Calm N free A' (s + 5 * P.length + 9) f' ∧ Clean 0 12304 (homed P base) f') ∨
      (e = .panicked lost ∧ DM w b T.L w' fun A' => A'.n = A.n ∧ ¬ free ∧ LogTorn N 0 12304 base P (s + 5 * P.length + 9) A') := by
  have c1 := h.c1; have c3 := h.c3
  obtain ⟨a, cap, e1⟩ := h.form'
  rw [e1] at c3
  have K : ∀ q, _ := fun q => log_commit (h.still ((Fr.refl _ w).drewN q)) c hc hs
  rw [e1] at K
  have HK := @hide _ K
  generalize P.length = len at *
  clear h K e1 hs
  go_enter Tryz.func54, Tryz.ntmps54
  go_wp2_with fail
  refine region_tailP 8 (by kernel_rfl) (by kernel_rfl) ?_
  simp only [List.take_succ_cons, List.take_zero, List.drop_succ_cons, List.drop_zero]
  repeat (go_big_quiet_step (first | fail))
  refine wpQuiet_nil ?_
  rintro _ ⟨nq, rfl⟩
  have K := unhide HK nq
  have HK2 := hide K
  clear K HK c1 c3
  go_wp2_with fail
  refine (unhide HK2).mono ?_
  clear HK2
  rintro e w1 (⟨rfl, D⟩ | ⟨rfl, D⟩)
  · have HD := hide (D.after ((Fr.refl _ w).drewN nq))
    clear D
    go_wp2
    go_end0
    exact .inl ⟨rfl, unhide HD⟩
  · exact ⟨rfl, .inr ⟨rfl, D.after ((Fr.refl _ w).drewN nq)⟩⟩
end

section
variable {w w' w0 : World} {sb b : Nat} {T T0 : Tay} {n : Nat} {A A' : Ab} {P : List (Int × Int)} {dd : Bool} {L' : Lay} {N : Nat} {free : Prop} {s : Int} {f base : Nat → Int}

set_option maxHeartbeats 400000 in
theorem t_abort (h : StL w sb b T n A P dd) : Calls Tryz.prog 57 #[ptr sb] w fun e w' => e = .returned (.tuple #[]) ∧ ∃ T', T'.L = T.L ∧ Onx w sb b T w' T' n A [] dd := by
  have K := hide (t_forget h)
  clear h
  go_enter Tryz.func57, Tryz.ntmps57
  go_wp2_with fail
  refine (unhide K).mono ?_
  rintro e w1 ⟨rfl, h⟩
  have H := hide h
  clear K h
  go_wp2
  go_end0
  exact ⟨rfl, unhide H⟩

/-- The store is dead from here on. -/
theorem StL.die (h : StL w sb b T n A P dd) : Onx w sb b T (w.setCell ⟨sb, 5, none⟩ (.bool true)) { T with mb := T.mb, sv := T.sv } n A P true := by
  have ce : ∀ o, o ≠ 5 → (w.setCell ⟨sb, 5, none⟩ (.bool true)).cell? ⟨sb, o, none⟩ = w.cell? ⟨sb, o, none⟩ := fun o ho => World.cell?_setCell_other _ _ _ _ (by simp <;> omega)
  obtain ⟨D, h1, h2⟩ := h.map
  refine h.relay (F := fun k => k = sb) ((Fr.refl (fun k => k = sb) w).setCell (.inl rfl) _) (fun k hk => .inl hk) T.mb T.sv P true (fun o ho => ce o (by omega)) ?_ ?_ (World.cell?_setCell_same _ _ _ h.c5) (fun o => by rw [World.frozen?_setCell]; exact h.zs o) ?_ ⟨D, ?_, h2⟩ h.few h.keys (.inl rfl) (fun k hk => ⟨.inl hk, (h.nsv k hk).2.2.2⟩)
  · rw [ce 3 (by omega)]; exact h.c3
  · rw [ce 4 (by omega)]; exact h.c4
  · exact owns_same h.own (fun k hk => Below.heap_setCell _ _ _ _ (h.nsv k hk).2.1)
  · exact ownsMap_block h1 (Below.heap_setCell _ _ _ _ h.mbsb) (by simp)

/-- How the store is behind a Commit of P that went well, and behind one that found the power gone. -/
def Done (N : Nat) (free : Prop) (s : Int) (base : Nat → Int) (P : List (Int × Int)) (A' : Ab) : Prop := ∃ f', Calm N free A' s f' ∧ Clean 0 12304 (homed P base) f'
def Gone (N : Nat) (free : Prop) (s : Int) (base : Nat → Int) (P : List (Int × Int)) (A' : Ab) : Prop := ¬ free ∧ LogTorn N 0 12304 base P s A'

set_option maxHeartbeats 1000000 in
theorem t_commit (h : StL w sb b T n A P false) (c : Calm N free A s f) (hc : Clean 0 12304 base f) (hs : s + 5 * P.length + 9 < 4294967296) :
    Calls Tryz.prog 25 #[ptr sb] w fun e w' =>
      (e = .returned (.tuple #[]) ∧ ∃ T' A', Onx w sb b T w' T' n A' [] false ∧ Done N free (s + 5 * P.length + 9) base P A') ∨
      (e = .panicked lost ∧ ∃ T' A', Onx w sb b T w' T' n A' P true ∧ Gone N free (s + 5 * P.length + 9) base P A') := by
  obtain ⟨W, hW⟩ : ∃ W, w.alloc (.cells #[ptr sb] 24) = W := ⟨_, rfl⟩
  have fW : Still w W := hW ▸ (Fr.refl _ w).alloc _
  have zW : W.heap.size = w.heap.size + 1 := by rw [← hW]; simp
  have bx : Box W w.heap.size (ptr sb) := hW ▸ Box.new w (ptr sb) 24
  have hWs := h.still fW
  have LV := t_live hWs c.dead
  have nf : ∀ k, w.heap.size ≤ k → ¬ foot b T.L k := fun k hk hf => by have := h.dev.lt k hf; omega
  have TR : ∀ W0, Still W W0 → Calls Tryz.prog 51 #[.func (.func 54) #[] #[ptr w.heap.size]] W0 fun e w' => ∃ h : How, e = .returned (.tuple #[h.v, .bool h.is]) ∧
      ((h = .well ∧ ∃ L' A', On W b T.L w' L' A' ∧ A'.n = A.n ∧ Done N free (s + 5 * P.length + 9) base P A') ∨ (h = .lost ∧ ∃ L' A', On W b T.L w' L' A' ∧ A'.n = A.n ∧ Gone N free (s + 5 * P.length + 9) base P A')) := by
    intro W0 f0
    refine try_fr (F := foot b T.L) (fun k hk => Nat.lt_of_lt_of_le (hWs.dev.lt k hk) f0.size) (acts_of (fun _ _ => by kernel_rfl) ?_)
    have f1 : Still W (W0.alloc box) := f0.alloc box
    refine (commit_clo (bx := w.heap.size) (hWs.still f1) c hc hs (bx.kept f1 (fun x => x)).c).mono ?_
    rintro e w3 (⟨rfl, D⟩ | ⟨rfl, D⟩)
    · obtain ⟨L3, A3, o3, hn, hd⟩ := D.on
      refine ⟨.well, rfl, o3.fr, fun w4 f4 => .inl ⟨rfl, L3, A3, ?_, hn, hd⟩⟩
      have o3' : On W b T.L w3 L3 A3 := ((On.start hWs.dev).quiet f1).trans o3
      exact o3'.turn f4 (fun k hk hf => by
        rcases o3.sub k hf with e | e
        · have := f0.size; exact nf k (by omega) e
        · have : (W0.alloc box).heap.size = W0.heap.size + 1 := by simp
          omega) (fun k hk => by have := f0.size; omega)
    · obtain ⟨L3, A3, o3, hn, hd⟩ := D.on
      refine ⟨.lost, How.ended_one _ _, o3.fr, fun w4 f4 => .inr ⟨rfl, L3, A3, ?_, hn, hd⟩⟩
      have o3' : On W b T.L w3 L3 A3 := ((On.start hWs.dev).quiet f1).trans o3
      exact o3'.turn f4 (fun k hk hf => by
        rcases o3.sub k hf with e | e
        · have := f0.size; exact nf k (by omega) e
        · have : (W0.alloc box).heap.size = W0.heap.size + 1 := by simp
          omega) (fun k hk => by have := f0.size; omega)
  have ON := onlyL_two (w := W) TR
  have HON := hide ON; have HW := hide hW; have HB := hide bx; have HH := hide h; have HWS := hide hWs; have HFW := hide fW; have HZ := hide zW
  have h1 := mf
  have bc := bx.c
  clear ON TR hW bx h hWs fW zW nf c hc
  go_enter Tryz.func25, Tryz.ntmps25
  go_wp2_with fail
  rw [unhide HW]
  refine LV.mono ?_
  rintro e w1 ⟨rfl, hh⟩
  replace hh := hh.symm
  subst hh
  clear LV
  go_wp2_with fail
  refine (unhide HON).mono ?_
  clear HON
  rintro e w2 ⟨w1, f12, ⟨rfl, L', A', o, hn, hd⟩ | ⟨rfl, L', A', o, hn, hd⟩⟩
  · obtain ⟨W3, hW3⟩ : ∃ W3, w2.alloc (.cells #[] 95) = W3 := ⟨_, rfl⟩
    have f13 : Still w1 W3 := hW3 ▸ f12.alloc _
    have x3 : Onx w sb b T W3 { T with L := L' } n A' P false := (((unhide HWS).ondev o hn).quiet f13).after (unhide HFW)
    have b3 : W3.cell? ⟨w.heap.size, 0, none⟩ = some (ptr sb) := (((unhide HB).kept o.fr (fun hf => by have := (unhide HH).dev.lt _ hf; omega)).kept f13 (fun x => x)).c
    have K := t_forget x3.st
    have HK := hide K; have HX := hide x3; have HD := hide hd; have HW3 := hide hW3
    clear K x3 hd o hW3 f13 f12 bc
    have b3' : (w2.alloc (.cells #[] 95)).cell? ⟨w.heap.size, 0, none⟩ = some (ptr sb) := by rw [unhide HW3]; exact b3
    clear b3
    go_wp2_with fail
    rw [unhide HW3]
    refine (unhide HK).mono ?_
    clear HK
    rintro e w4 ⟨rfl, T4, -, x4⟩
    have HX4 := hide x4
    clear x4 b3'
    go_wp2
    go_end0
    exact .inl ⟨rfl, T4, A', (unhide HX).trans (unhide HX4), unhide HD⟩
  · obtain ⟨W3, hW3⟩ : ∃ W3, w2.alloc (.cells #[] 95) = W3 := ⟨_, rfl⟩
    have f13 : Still w1 W3 := hW3 ▸ f12.alloc _
    have x3 : Onx w sb b T W3 { T with L := L' } n A' P false := (((unhide HWS).ondev o hn).quiet f13).after (unhide HFW)
    have b3 : W3.cell? ⟨w.heap.size, 0, none⟩ = some (ptr sb) := (((unhide HB).kept o.fr (fun hf => by have := (unhide HH).dev.lt _ hf; omega)).kept f13 (fun x => x)).c
    have c5 := x3.st.c5
    have z5 := x3.st.zs 5
    have x4 := x3.trans x3.st.die
    have HX := hide x4; have HD := hide hd
    rw [← hW3] at b3 c5 z5
    have HW3 := hide hW3
    clear x3 x4 hd o hW3 f13 f12 bc hn
    go_wp2
    have HX := unhide HX
    rw [← unhide HW3] at HX
    exact ⟨rfl, .inr ⟨rfl, _, A', HX, unhide HD⟩⟩

section
variable (x : Value)
theorem taE_errno (w : World) : (Instr.typeAssert (.iface 33 x) 20 33 true).run Tryz.prog w = .ok (.tuple #[x, .bool true]) w := by kernel_rfl
theorem taE_lost (w : World) : (Instr.typeAssert (.iface 95 x) 20 33 true).run Tryz.prog w = .ok (.tuple #[.int .i64 0, .bool false]) w := by kernel_rfl
theorem taE_str (w : World) : (Instr.typeAssert (.iface 9 x) 20 33 true).run Tryz.prog w = .ok (.tuple #[.int .i64 0, .bool false]) w := by kernel_rfl
theorem taL_str (w : World) : (Instr.typeAssert (.iface 9 x) 20 95 true).run Tryz.prog w = .ok (.tuple #[.agg #[], .bool false]) w := by kernel_rfl
theorem eq_nil (w : World) : (binOp .eql 20 .nilIface .nilIface).run Tryz.prog w = .ok (.bool true) w := by kernel_rfl
theorem eq_errno (w : World) : (binOp .eql 20 (.iface 33 x) .nilIface).run Tryz.prog w = .ok (.bool false) w := by kernel_rfl
theorem eq_lost (w : World) : (binOp .eql 20 (.iface 95 x) .nilIface).run Tryz.prog w = .ok (.bool false) w := by kernel_rfl
theorem eq_str (w : World) : (binOp .eql 20 (.iface 9 x) .nilIface).run Tryz.prog w = .ok (.bool false) w := by kernel_rfl
end

set_option maxHeartbeats 400000 in
theorem settle_nil (w : World) : Calls Tryz.prog 26 #[ptr sb, .nilIface] w fun e w' => e = .returned (.int .i64 0) ∧ w' = w := by
  have h1 := eq_nil
  go_enter Tryz.func26, Tryz.ntmps26
  go_wp2
  go_ret
  exact ⟨rfl, rfl⟩

set_option maxHeartbeats 400000 in
theorem settle_errno (h : StL w sb b T n A P dd) (i : Int) : Calls Tryz.prog 26 #[ptr sb, .iface 33 (.int .i64 i)] w fun e w' => e = .returned (.int .i64 i) ∧ ∃ T', T'.L = T.L ∧ Onx w sb b T w' T' n A [] dd := by
  have h1 := eq_errno; have h2 := taE_errno
  have K := hide (t_abort h)
  clear h
  go_enter Tryz.func26, Tryz.ntmps26
  go_wp2_with fail
  refine (unhide K).mono ?_
  rintro e w1 ⟨rfl, x⟩
  have HX := hide x
  clear x K
  go_wp2
  go_ret
  exact ⟨rfl, unhide HX⟩

set_option maxHeartbeats 400000 in
theorem settle_str (h : StL w sb b T n A P dd) (y : Value) : Calls Tryz.prog 26 #[ptr sb, .iface 9 y] w fun e w' => e = .panicked [{ v := .iface 9 y, recovered := false }] ∧ ∃ T', T'.L = T.L ∧ Onx w sb b T w' T' n A [] dd := by
  have h1 := eq_str; have h2 := taE_str; have h3 := taL_str
  have K := hide (t_abort h)
  clear h
  go_enter Tryz.func26, Tryz.ntmps26
  go_wp2_with fail
  refine (unhide K).mono ?_
  rintro e w1 ⟨rfl, x⟩
  have HX := hide x
  clear x K
  go_wp2
  exact ⟨rfl, rfl, unhide HX⟩

set_option maxHeartbeats 400000 in
theorem settle_lost (h : StL w sb b T n A P dd) : Calls Tryz.prog 26 #[ptr sb, .iface 95 (.agg #[])] w fun e w' => e = .returned (.int .i64 50) ∧ ∃ T', T'.L = T.L ∧ Onx w sb b T w' T' n A P true := by
  have h1 := eq_lost; have h2 := taE_lost; have h3 := taL_lost
  obtain ⟨W, hW⟩ : ∃ W, w.alloc (.cells #[] 95) = W := ⟨_, rfl⟩
  have fW : Still w W := hW ▸ (Fr.refl _ w).alloc _
  have hWs := h.still fW
  have c5 := hWs.c5; have z5 := hWs.zs 5
  rw [← hW] at c5 z5
  have fin := (hWs.die).after fW
  rw [← hW] at fin
  have HF := hide fin
  clear h fin hWs fW hW
  go_enter Tryz.func26, Tryz.ntmps26
  go_wp2
  go_ret
  refine ⟨rfl, _, ?_, unhide HF⟩
  rfl
end

section
variable {w w' w0 : World} {sb b : Nat} {T T0 : Tay} {n : Nat} {A A' : Ab} {P : List (Int × Int)} {dd : Bool} {L' : Lay} {N : Nat} {free : Prop} {s : Int} {f base : Nat → Int}

theorem Done.more {t : Int} (h : Done N free s base P A) (hs : s ≤ t) : Done N free t base P A := let ⟨f', c, k⟩ := h; ⟨f', c.more hs, k⟩
theorem Gone.more {t : Int} (h : Gone N free s base P A) (hs : s ≤ t) : Gone N free t base P A := ⟨h.1, h.2.1, Int.le_trans h.2.2.1 hs, h.2.2.2⟩

abbrev textP (y : Value) : List PanicEntry := [{ v := .iface 9 y, recovered := false }]

/-- A change: it may put, and ends well, by an error, or by a text. -/
def Change (w : World) (sb b : Nat) (T : Tay) (n : Nat) (A : Ab) (fv : Value) (R : How → List (Int × Int) → Prop) : Prop :=
  ∀ w1, Still w w1 → Acts fv w1 fun h w2 => (h = .well ∨ (∃ i, h = .errno i) ∨ ∃ y, h = .bad 9 y) ∧ ∃ T' P', Onx w1 sb b T w2 T' n A P' false ∧ R h P'

/-- How Do ends. -/
def Did (w : World) (sb b : Nat) (T : Tay) (n N : Nat) (free : Prop) (A : Ab) (s : Int) (base : Nat → Int) (R : How → List (Int × Int) → Prop) (e : Ending) (w' : World) : Prop :=
  (∃ P', R .well P' ∧ e = .returned (.int .i64 0) ∧ ∃ T' A', Onx w sb b T w' T' n A' [] false ∧ Done N free (s + 30729) base P' A') ∨
  (∃ P', R .well P' ∧ e = .returned (.int .i64 50) ∧ ∃ T' A', Onx w sb b T w' T' n A' P' true ∧ Gone N free (s + 30729) base P' A') ∨
  (∃ i P', R (.errno i) P' ∧ e = .returned (.int .i64 i) ∧ ∃ T', Onx w sb b T w' T' n A [] false) ∨
  (∃ y P', R (.bad 9 y) P' ∧ e = .panicked (textP y) ∧ ∃ T', Onx w sb b T w' T' n A [] false)

/-- Try about what turns only the store. -/
theorem try_store {fv : Value} {Q : How → World → Prop} (h : StL w sb b T n A P dd) (hf : Acts fv (w.alloc box) fun h w2 => Fr (tfoot sb b T) (w.alloc box) w2 ∧ ∀ w3, Fr (fun k => k = w.heap.size) w2 w3 → Q h w3) :
    Calls Tryz.prog 51 #[fv] w fun e w' => ∃ h : How, e = .returned (.tuple #[h.v, .bool h.is]) ∧ Q h w' :=
  try_fr (F := tfoot sb b T) h.lt hf

theorem Onx.boxed {T' : Tay} {P' : List (Int × Int)} {dd' : Bool} {w2 w3 : World} (h : StL w sb b T n A P dd) (f0 : Still w0 w) (o : Onx (w.alloc box) sb b T w2 T' n A' P' dd') (hf : Fr (fun k => k = w.heap.size) w2 w3) : Onx w0 sb b T w3 T' n A' P' dd' := by
  have o1 := o.after (f0.alloc box)
  refine o1.turn hf (fun k hk ht => ?_) (fun k hk => by have := f0.size; omega)
  rcases o.sub k ht with e | e
  · have := h.lt k e; omega
  · have : (w.alloc box).heap.size = w.heap.size + 1 := by simp
    omega

set_option maxHeartbeats 1000000 in
theorem t_do_dead {fv : Value} (h : StL w sb b T n A P true) : Calls Tryz.prog 7 #[ptr sb, fv] w fun e w' => e = .returned (.int .i64 50) ∧ w' = w := by
  have c5 := h.c5
  clear h
  go_enter Tryz.func7, Tryz.ntmps7
  go_wp2
  go_ret
  exact ⟨rfl, rfl⟩

set_option maxHeartbeats 2000000 in
theorem t_do {g : Nat} {fi ca : Array Value} {R : How → List (Int × Int) → Prop} (h : StL w sb b T n A P false) (c : Calm N free A s f) (hc : Clean 0 12304 base f) (hf : Change w sb b T n A (.func (.func g) fi ca) R) (hs : s + 30729 < 4294967296) :
    Calls Tryz.prog 7 #[ptr sb, .func (.func g) fi ca] w (Did w sb b T n N free A s base R) := by
  obtain ⟨W, hW⟩ : ∃ W, w.alloc (.cells #[.func (.func g) fi ca, .func (.func 25) #[ptr sb] #[]] 1) = W := ⟨_, rfl⟩
  have fW : Still w W := hW ▸ (Fr.refl _ w).alloc _
  have zW : W.heap.size = w.heap.size + 1 := by rw [← hW]; simp
  have hb : W.heap[w.heap.size]? = some (.cells #[.func (.func g) fi ca, .func (.func 25) #[ptr sb] #[]] 1) := hW ▸ heap_alloc_new w _
  have hWs := h.still fW
  have nT : ¬ tfoot sb b T w.heap.size := fun e => by have := h.lt _ e; omega
  have E := each_two (lb := w.heap.size) (f := .func (.func g) fi ca) (g := .func (.func 25) #[ptr sb] #[]) (w := W)
    (I1 := fun w' => ∃ T' P', Onx W sb b T w' T' n A P' false ∧ R .well P')
    (I2 := fun w' => ∃ P', R .well P' ∧ ∃ T' A', Onx W sb b T w' T' n A' [] false ∧ Done N free (s + 30729) base P' A')
    (S := fun h w' => (∃ i P', h = .errno i ∧ R (.errno i) P' ∧ ∃ T', Onx W sb b T w' T' n A P' false) ∨ (∃ y P', h = .bad 9 y ∧ R (.bad 9 y) P' ∧ ∃ T', Onx W sb b T w' T' n A P' false) ∨ (∃ P', h = .lost ∧ R .well P' ∧ ∃ T' A', Onx W sb b T w' T' n A' P' true ∧ Gone N free (s + 30729) base P' A'))
    (cell_of_obj hb 0)
    (try_store hWs ((hf (W.alloc box) (fW.alloc box)).mono (by
      rintro k w2 ⟨hk, T', P', o, r⟩
      refine ⟨o.fr, fun w3 f3 => ?_⟩
      have o3 := Onx.boxed hWs (Fr.refl _ W) o f3
      rcases hk with rfl | ⟨i, rfl⟩ | ⟨y, rfl⟩
      · exact .inl ⟨rfl, (o3.fr.cell' (cell_of_obj hb 1) nT), T', P', o3, r⟩
      · exact .inr ⟨rfl, .inl ⟨i, P', rfl, r, T', o3⟩⟩
      · exact .inr ⟨rfl, .inr (.inl ⟨y, P', rfl, r, T', o3⟩)⟩)))
    (by
      rintro w1 ⟨T1, P1, o1, r1⟩
      have few := o1.st.few
      refine try_store o1.st (acts_of (fun _ _ => by kernel_rfl) ((t_commit (o1.st.still ((Fr.refl _ w1).alloc box)) c hc (by omega)).mono ?_))
      rintro e w2 (⟨rfl, T', A', o, d⟩ | ⟨rfl, T', A', o, d⟩)
      · refine ⟨.well, rfl, o.fr, fun w3 f3 => .inl ⟨rfl, P1, r1, T', A', o1.trans (Onx.boxed o1.st (Fr.refl _ w1) o f3), d.more (by omega)⟩⟩
      · refine ⟨.lost, How.ended_one _ _, o.fr, fun w3 f3 => .inr ⟨rfl, .inr (.inr ⟨P1, rfl, r1, T', A', o1.trans (Onx.boxed o1.st (Fr.refl _ w1) o f3), d.more (by omega)⟩)⟩⟩)
  have c5 := h.c5
  have h1 := mf
  have HE := hide E; have HW := hide hW; have HFW := hide fW
  clear E hW fW zW hb hWs nT h c hc hf
  unfold Did
  go_enter Tryz.func7, Tryz.ntmps7
  go_wp2_with fail
  rw [unhide HW]
  refine (unhide HE).mono ?_
  clear HE
  rintro e w2 ⟨k, ⟨rfl, P', r, x⟩ | ⟨h, rfl, x⟩⟩
  · have K := settle_nil (sb := sb) w2
    have HX := hide x; have HR := hide r
    clear x r
    go_wp2_with fail
    refine K.mono ?_
    rintro e w3 ⟨rfl, hh⟩
    replace hh := hh.symm
    subst hh
    clear K
    go_wp2
    go_ret
    obtain ⟨T', A', o, d⟩ := unhide HX
    exact .inl ⟨P', unhide HR, rfl, T', A', o.after (unhide HFW), d⟩
  · rcases x with ⟨i, P', rfl, r, T', o⟩ | ⟨y, P', rfl, r, T', o⟩ | ⟨P', rfl, r, T', A', o, d⟩
    · have K := hide (settle_errno o.st i)
      have HX := hide (And.intro r o)
      clear r o
      simp only [How.v]
      go_wp2_with fail
      refine (unhide K).mono ?_
      rintro e w3 ⟨rfl, T3, -, o3⟩
      have HO3 := hide o3
      clear K o3
      go_wp2
      go_ret
      obtain ⟨r, o⟩ := unhide HX
      exact .inr (.inr (.inl ⟨i, P', r, rfl, T3, (o.trans (unhide HO3)).after (unhide HFW)⟩))
    · have K := hide (settle_str o.st y)
      have HX := hide (And.intro r o)
      clear r o
      simp only [How.v]
      go_wp2_with fail
      refine (unhide K).mono ?_
      rintro e w3 ⟨rfl, T3, -, o3⟩
      obtain ⟨r, o⟩ := unhide HX
      exact ⟨rfl, .inr (.inr (.inr ⟨y, P', r, rfl, T3, (o.trans o3).after (unhide HFW)⟩))⟩
    · have K := hide (settle_lost o.st)
      have HX := hide (And.intro r (And.intro o d))
      clear r o d
      simp only [How.v]
      go_wp2_with fail
      refine (unhide K).mono ?_
      rintro e w3 ⟨rfl, T3, -, o3⟩
      have HO3 := hide o3
      clear K o3
      go_wp2
      go_ret
      obtain ⟨r, o, d⟩ := unhide HX
      exact .inr (.inl ⟨P', r, rfl, T3, A', (o.trans (unhide HO3)).after (unhide HFW), d⟩)
end
end Go.Proofs.YtdgobaknbjlahaaGreatDoor
