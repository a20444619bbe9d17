/- A log's rounds; bringing home; soundness. -/
import Derived.Test.YtdgobaknbjlahaaGreatDoorRdA
import Derived.OwnWalkIn
import Derived.TacticsInMore
import Derived.LoopNIn
import Derived.LoopIn
import Derived.RangeFuncCalls
import Derived.Lib.SlicesCompact
namespace Go.Proofs.YtdgobaknbjlahaaGreatDoor
open Go.RowKit

section
variable {w0 w : World} {b : Nat} {L0 L : Lay} {N : Nat} {A : Ab} {lg at_ ws : Nat}

theorem load_int {w : World} {b : Nat} {L : Lay} {A : Ab} (d : DevL w b L A) (hd : A.dead = false) (i : Int) (h0 : 0 ≤ i) (hi : i < A.n * 8) :
    Calls Tryz.prog 69 #[ptr b, .int .i64 i] w fun e w' => e = .returned (u64 (A.now i.toNat)) ∧ w' = w := by
  obtain ⟨j, rfl⟩ := Int.eq_ofNat_of_zero_le h0
  rw [Int.toNat_natCast]
  exact load_ok d hd j (by omega)

theorem place_int {w : World} (h : LogAt w lg b at_ ws) (ha : at_ ≤ 65536) (i : Int) (h0 : 0 ≤ i) (hi : i ≤ 65536) :
    Calls Tryz.prog 111 #[ptr lg, .int .i64 i] w fun e w' => e = .returned (.int .i64 ((at_ : Int) + 8 + 2 * i)) ∧ w' = w := by
  obtain ⟨j, rfl⟩ := Int.eq_ofNat_of_zero_le h0
  exact place_ok h ha j (by omega)

/-- What the iterator reads: its boxes, the log, the words of the writes. -/
structure Reads (W : World) (bl bn lg b at_ ws n : Nat) (g : Nat → Int) : Prop where
  cn : W.cell? ⟨bn, 0, none⟩ = some (.int .i64 n)
  cl : W.cell? ⟨bl, 0, none⟩ = some (ptr lg)
  log : LogAt W lg b at_ ws
  dev : ∃ L A, DevL W b L A ∧ A.dead = false ∧ at_ + 8 + 2 * n ≤ A.n * 8 ∧ A.n ≤ 8192 ∧ ∀ j, at_ + 8 ≤ j → j < at_ + 8 + 2 * n → A.now j = g j

/-- The k-th that comes, of n. -/
def come (at_ n : Nat) (g : Nat → Int) (k : Nat) : Value :=
  .agg #[.int .i64 (wrap64 (g (at_ + 8 + 2 * (n - 1 - k)))), u64 (g (at_ + 8 + 2 * (n - 1 - k) + 1))]

attribute [local go_sem] Oper.semAt_some

set_option maxRecDepth 100000 in
set_option maxHeartbeats 1000000 in
theorem iter_ok (bl bn n l : Nat) (g : Nat → Int) (J : Nat → World → Prop) (hn : n ≤ 65536) (hJ : ∀ k W, J k W → Reads W bl bn lg b at_ ws n g) :
    Iter 0 Tryz.prog 123 #[.pointer (some ⟨bn, 0, none⟩), .pointer (some ⟨bl, 0, none⟩)] (come at_ n g) n l J := by
  intro J' Jx Jp hJJ hdr hY W h0
  have hwd : Fence.wide.depth = none := rfl
  have hwf : ∀ f, Fence.wide.fn f := fun _ => trivial
  have hr0 := hJ 0 W (hJJ 0 W h0)
  have cn := hr0.cn
  have HJ := hide hJ; have HJJ := hide hJJ; have HD := hide hdr; have HY := hide hY; have H0 := hide h0
  clear hJ hJJ hdr hY h0 hr0
  refine callsIn_of_wp Tryz.func123 rfl trivial ?_ rfl
  simp only [Tryz.ntmps123, List.size_toArray, List.length_cons, List.length_nil, Nat.reduceAdd, Nat.reduceSub, Array.replicate_succ, Array.replicate_zero, List.push_toArray, List.append_toArray, List.nil_append, List.cons_append]
  gi_wp2
  gi_loopw [4] (fun c wr => ∃ k : Nat, k ≤ n ∧ c = .int .i64 ((n : Int) - 1 - k) ∧ J' k wr) (fun c wr => (intOf c + 1).toNat)
  case atStart => exact ⟨0, Nat.zero_le _, by simp, unhide H0⟩
  case round =>
    obtain ⟨k, hk, rfl, hj⟩ := hrel
    have hr := unhide HJ k wr (unhide HJJ k wr hj)
    by_cases hlt : k < n
    · obtain ⟨L1, A1, d1, dd, hb, hb2, hg⟩ := hr.dev
      have cl := hr.cl
      have c0 := hr.log.c0
      have HR := hide hr; have HJ1 := hide hj; have HD1 := hide d1; have HDD := hide dd; have HG := hide hg
      clear hr hj d1 dd hg cn H0
      gi_wp2_with (gi_at_call 111; refine (callsIn_wide.2 (place_int (unhide HR).log (by omega) _ (by omega) (by omega))).mono ?_; rintro e w' ⟨rfl, hh⟩; replace hh := hh.symm; subst hh)
      refine region_tail 16 (by kernel_rfl) (by kernel_rfl) (by kernel_rfl) ?_
      simp only [List.take_succ_cons, List.take_zero, List.drop_succ_cons, List.drop_zero]
      repeat (gi_big_quiet_step (first | (gi_at_call 69; exact CallsIn.quiet_of_same (callsIn_wide.2 (load_int ((unhide HD1).keptF ((Fr.refl _ wr).drewN _)) (unhide HDD) _ (by omega) (by omega))))))
      refine wpQuietIn_nil ?_
      rintro _ ⟨nq, rfl⟩
      obtain ⟨fn, tmps, assign, body, hy, hR⟩ := unhide HY k (wr.drewN nq) hlt (unhide HD k wr nq (unhide HJ1))
      have e1 := unhide HG (at_ + 8 + 2 * (n - 1 - k)) (by omega) (by omega)
      have e2 := unhide HG (at_ + 8 + 2 * (n - 1 - k) + 1) (by omega) (by omega)
      unfold come at hy
      rw [← e1, ← e2] at hy
      have HRR := hide hR
      clear e1 e2 HD1 HDD HG c0 cl hR HR HJ1
      gi_wp2
      refine (unhide HRR).mono ?_
      clear hy HRR
      rintro e W3 (⟨rfl, hj3⟩ | ⟨rfl, hx3⟩ | ⟨ch, rfl, hp3⟩)
      · have HJ3 := hide hj3
        clear hj3
        gi_wp2
        go_roundw
        case rel => exact ⟨k + 1, by omega, by simp; omega, unhide HJ3⟩
        case measure => simp [intOf]; omega
      · have HX3 := hide hx3
        clear hx3
        gi_wp2
        refine bodyPost_ret (results_none rfl _ _ _) rfl ?_
        exact .inr (.inl ⟨_, rfl, unhide HX3⟩)
      · exact ⟨rfl, .inr (.inr ⟨ch, rfl, hp3⟩)⟩
    · obtain rfl : k = n := by omega
      have HJ1 := hide hj
      clear hj hr cn H0
      gi_wp2
      go_end0
      exact .inl ⟨_, rfl, unhide HJ1⟩
end

/-- What stands behind the writes ys, of which the first of a word counts. -/
def homed (ys : List (Int × Int)) (f : Nat → Int) (j : Nat) : Int := match ys.find? (fun x => x.1 == (j : Int)) with | some x => x.2 | none => f j

theorem homed_nil (f : Nat → Int) : homed [] f = f := rfl

theorem homed_seen {ys : List (Int × Int)} {x : Int × Int} (h : ∃ y ∈ ys, y.1 = x.1) (f : Nat → Int) : homed (ys ++ [x]) f = homed ys f := by
  funext j
  unfold homed
  rw [List.find?_append]
  cases e : ys.find? (fun x => x.1 == (j : Int)) with
  | some y => rfl
  | none =>
    have hn : ¬ x.1 = (j : Int) := fun hx => by
      obtain ⟨y, hy, hyx⟩ := h
      have := List.find?_eq_none.1 e y hy
      simp [hyx, hx] at this
    simp [hn]

theorem homed_new {ys : List (Int × Int)} {x : Int × Int} (h : ¬ ∃ y ∈ ys, y.1 = x.1) (h0 : 0 ≤ x.1) (f : Nat → Int) : homed (ys ++ [x]) f = upd (homed ys f) x.1.toNat x.2 := by
  funext j
  by_cases e : j = x.1.toNat
  · subst e
    have hx : ((x.1.toNat : Nat) : Int) = x.1 := Int.toNat_of_nonneg h0
    rw [upd_same]
    unfold homed
    rw [List.find?_append, List.find?_eq_none.2 (fun y hy => by rw [hx]; simp; exact fun e => h ⟨y, hy, e⟩)]
    simp [hx]
  · rw [upd_other _ _ e]
    unfold homed
    rw [List.find?_append]
    have hn : ¬ x.1 = (j : Int) := fun hx => e (by omega)
    cases e : ys.find? (fun x => x.1 == (j : Int)) with
    | some y => rfl
    | none => simp [hn]

/-- On the way each word is as it was or as it will be. -/
theorem homed_between (ys : List (Int × Int)) (k : Nat) (f : Nat → Int) (j : Nat) : homed (ys.take k) f j = f j ∨ homed (ys.take k) f j = homed ys f j := by
  unfold homed
  cases e : (ys.take k).find? (fun x => x.1 == (j : Int)) with
  | none => exact .inl rfl
  | some x =>
    refine .inr ?_
    have : ys.find? (fun x => x.1 == (j : Int)) = some x := by
      conv => lhs; rw [← List.take_append_drop k ys]
      rw [List.find?_append, e]; rfl
    rw [this]

theorem homed_other {ys : List (Int × Int)} {j : Nat} (h : ∀ y ∈ ys, y.1 ≠ (j : Int)) (f : Nat → Int) : homed ys f j = f j := by
  unfold homed
  rw [List.find?_eq_none.2 (fun y hy => by simp; exact h y hy)]

theorem homed_turned {ys : List (Int × Int)} {f : Nat → Int} {j : Nat} (h : homed ys f j ≠ f j) : ∃ y ∈ ys, y.1 = (j : Int) :=
  Classical.byContradiction fun hn => h (homed_other (fun y hy e => hn ⟨y, hy, e⟩) f)

/-- Two contents that agree where no write is. -/
theorem homed_again (ys : List (Int × Int)) (f g : Nat → Int) (j : Nat) (h : g j = f j ∨ g j = homed ys f j) : homed ys g j = homed ys f j := by
  by_cases e : ∃ y ∈ ys, y.1 = (j : Int)
  · unfold homed
    cases ef : ys.find? (fun x => x.1 == (j : Int)) with
    | some x => rfl
    | none =>
      obtain ⟨y, hy, hj⟩ := e
      have := List.find?_eq_none.1 ef y hy
      simp [hj] at this
  · have ho : ∀ y ∈ ys, y.1 ≠ (j : Int) := fun y hy e' => e ⟨y, hy, e'⟩
    rw [homed_other ho, homed_other ho]
    rw [homed_other ho] at h
    exact h.elim id id

theorem mem_compact {x : Int} (zs : List Int) : x ∈ Lib.compact zs ↔ x ∈ zs := by
  unfold Lib.compact Lib.compactUpTo
  simp only [List.mem_map, List.mem_filter, List.mem_range]
  constructor
  · rintro ⟨i, ⟨hi, _⟩, rfl⟩
    rw [getElem!_pos zs.toArray i (by simpa using hi)]
    simp
  · intro hx
    obtain ⟨i, hi, he⟩ := List.mem_iff_getElem.1 hx
    have key : ∀ i (hi : i < zs.length), ∃ j, (j < zs.length ∧ Lib.keeps zs.toArray j = true) ∧ zs.toArray[j]! = zs[i] := by
      intro i
      induction i using Nat.strongRecOn with
      | _ i ih =>
        intro hi
        by_cases hk : Lib.keeps zs.toArray i = true
        · exact ⟨i, ⟨hi, hk⟩, by rw [getElem!_pos zs.toArray i (by simpa using hi)]; simp⟩
        · have hk' : i ≠ 0 ∧ zs.toArray[i]! = zs.toArray[i - 1]! := by
            unfold Lib.keeps at hk
            simpa using hk
          obtain ⟨j, hj, e⟩ := ih (i - 1) (by omega) (by omega)
          refine ⟨j, hj, ?_⟩
          rw [e]
          have := hk'.2
          rw [getElem!_pos zs.toArray i (by simpa using hi), getElem!_pos zs.toArray (i - 1) (by simp; omega)] at this
          simpa using this.symm
    obtain ⟨j, hj, e⟩ := key i hi
    exact ⟨j, hj, e.trans he⟩

section
variable {w : World} {b : Nat} {L : Lay} {N : Nat} {A : Ab} {f : Nat → Int} {lg at_ ws : Nat}

theorem three (w : World) (O1 O2 O3 : Obj) : (((w.alloc O1).alloc O2).alloc O3).heap[w.heap.size]? = some O1 ∧ (((w.alloc O1).alloc O2).alloc O3).heap[w.heap.size + 1]? = some O2 ∧ (((w.alloc O1).alloc O2).alloc O3).heap[w.heap.size + 2]? = some O3 := by
  have s1 : (w.alloc O1).heap.size = w.heap.size + 1 := by simp
  have s2 : ((w.alloc O1).alloc O2).heap.size = w.heap.size + 2 := by simp
  refine ⟨?_, ?_, ?_⟩
  · rw [Below.heap_alloc _ _ _ (by omega), Below.heap_alloc _ _ _ (by omega)]; exact heap_alloc_new w O1
  · rw [Below.heap_alloc _ _ _ (by omega), ← s1]; exact heap_alloc_new _ O2
  · rw [← s2]; exact heap_alloc_new _ O3
theorem two (w : World) (O1 O2 : Obj) : ((w.alloc O1).alloc O2).heap[w.heap.size]? = some O1 ∧ ((w.alloc O1).alloc O2).heap[w.heap.size + 1]? = some O2 := by
  have s1 : (w.alloc O1).heap.size = w.heap.size + 1 := by simp
  refine ⟨?_, ?_⟩
  · rw [Below.heap_alloc _ _ _ (by omega)]; exact heap_alloc_new w O1
  · rw [← s1]; exact heap_alloc_new _ O2

attribute [local go_sem] Oper.semAt_some

set_option maxRecDepth 100000 in
set_option maxHeartbeats 1000000 in
theorem sound_ok (d : DevL w b L A) (hd : A.dead = false) (hl : LogAt w lg b at_ ws) (n : Nat) (hn : at_ + 8 + 2 * n ≤ A.n * 8)
    (ho : ∀ k, k < n → outside A.n at_ (wrap64 (A.now (at_ + 8 + 2 * k))) ((at_ : Int) + 8 + 2 * n)) :
    Calls Tryz.prog 107 #[ptr lg, .int .i64 n] w fun e w' => e = .returned (.int .i64 n) ∧ Fr (fun _ => False) w w' := by
  have hwd : Fence.wide.depth = none := rfl
  have hwf : ∀ f, Fence.wide.fn f := fun _ => trivial
  have n8 := d.n8
  have c0 := hl.c0
  have HD := hide d; have HDD := hide hd; have HL := hide hl; have HO := hide ho
  clear d hd hl ho
  refine calls_of_wpOf Tryz.func107 rfl ?_
  simp only [Tryz.ntmps107, List.size_toArray, List.length_cons, List.length_nil, Nat.reduceAdd, Nat.reduceSub, Array.replicate_succ, Array.replicate_zero, List.push_toArray, List.append_toArray, List.nil_append, List.cons_append]
  refine wpOf_seq (wpOf_of_wp ?_)
  go_wp2
  show wpOf _ _ _ _ _ _
  refine wpOf_seq (wpOf_of_wp ?_)
  obtain ⟨W1, hW1⟩ : ∃ W1, ((w.alloc (.cells #[ptr lg] 55)).alloc (.cells #[.int .i64 n] 3)).alloc (.cells #[.int .i64 0] 3) = W1 := ⟨_, rfl⟩
  have f1 : Fr (fun _ => False) w W1 := hW1 ▸ (((Fr.refl _ w).alloc _).alloc _).alloc _
  have z1 : W1.heap.size = w.heap.size + 3 := by rw [← hW1]; simp
  obtain ⟨b1, b2, b3⟩ := three w (.cells #[ptr lg] 55) (.cells #[.int .i64 n] 3) (.cells #[.int .i64 0] 3)
  rw [hW1] at b1 b2 b3 ⊢
  have x1 : W1.cell? ⟨w.heap.size, 0, none⟩ = some (ptr lg) := cell_of_row _ _ _ _ _ _ b1
  have x2 : W1.cell? ⟨w.heap.size + 1, 0, none⟩ = some (.int .i64 n) := cell_of_row _ _ _ _ _ _ b2
  have c0 : W1.cell? ⟨lg, 0, none⟩ = some (ptr b) := f1.cell' c0 (fun h => h)
  have d1 := (unhide HD).keptF f1
  have l1 := (unhide HL).kept f1 (fun h => h)
  have d0 := d1.c0
  have HD1 := hide d1; have HL1 := hide l1; have HW1 := hide hW1; have HF1 := hide f1; have HB3 := hide b3; have HZ1 := hide z1
  clear b1 b2 b3 hW1 d1 l1 f1 z1 HD HL
  go_wp2_with fail
  go_quiet (first | (go_at_call 80; exact Calls.quiet_of_same (words_any b L.bn A.n _ (by omega) (by assumption))) | (go_at_call 111; exact Calls.quiet_of_same (place_ok ((unhide HL1).drewN _) (by omega) 0 (by omega))))
  go_wp2_with fail
  refine wpOf_seq (wpOf_seq (wpOf_of_wp ?_))
  go_wp2_with (go_at_call 114; refine (fromEnd_ok lg n _).mono ?_; rintro e w' ⟨rfl, rfl⟩)
  show wpOf _ _ _ _ _ _
  obtain ⟨W2, hh⟩ : ∃ W2, ((W1.drewN nq).alloc (.cells #[ptr lg] 55)).alloc (.cells #[.int .i64 n] 3) = W2 := ⟨_, rfl⟩
  have f2 : Fr (fun _ => False) W1 W2 := hh ▸ (((Fr.refl _ W1).drewN nq).alloc _).alloc _
  have z1 := unhide HZ1
  have z2 : W2.heap.size = w.heap.size + 5 := by rw [← hh]; simp [z1]
  obtain ⟨b4, b5⟩ := two (W1.drewN nq) (.cells #[ptr lg] 55) (.cells #[.int .i64 n] 3)
  rw [hh] at b4 b5 ⊢
  have x4 : W2.cell? ⟨W1.heap.size, 0, none⟩ = some (ptr lg) := cell_of_row _ _ _ _ _ _ b4
  have x5 : W2.cell? ⟨W1.heap.size + 1, 0, none⟩ = some (.int .i64 n) := cell_of_row _ _ _ _ _ _ b5
  have y1 : W2.cell? ⟨w.heap.size, 0, none⟩ = some (ptr lg) := f2.cell' x1 (fun h => h)
  have y2 : W2.cell? ⟨w.heap.size + 1, 0, none⟩ = some (.int .i64 n) := f2.cell' x2 (fun h => h)
  have y3 : W2.heap[w.heap.size + 2]? = some (.cells #[.int .i64 0] 3) := (f2.block _ (by omega) (fun h => h)).trans (unhide HB3)
  have l2 := (unhide HL1).kept f2 (fun h => h)
  have d2 := (unhide HD1).keptF f2
  have f3 := (unhide HF1).trans f2
  have HL2 := hide l2; have HD2 := hide d2; have HF3 := hide f3; have HY3 := hide y3; have HZ2 := hide z2; have HX4 := hide x4; have HX5 := hide x5; have HY1 := hide y1; have HY2 := hide y2
  clear hh b4 b5 l2 d2 f2 z1 x1 x2 c0 d0 HD1 HL1 HW1 HF1 HB3 HZ1 z2 f3 y3 x4 x5 y1 y2
  rename_i c0'
  clear c0'
  refine wpOf_block (range_ok (gf := 123) (lb := #[.pointer (some ⟨W1.heap.size + 1, 0, none⟩), .pointer (some ⟨W1.heap.size, 0, none⟩)]) (N := n) (enc := come at_ n A.now) rfl (fun _ _ => by kernel_rfl) rfl ⟨_, Tryz.func107⟩
    (fun k W => Fr (fun _ => False) W2 W ∧ W2.heap.size + 2 ≤ W.heap.size)
    (fun k a' W => (Fr (fun _ => False) W2 W ∧ W2.heap.size + 2 ≤ W.heap.size) ∧ ∃ bx, W2.heap.size + 2 ≤ bx ∧ bx < W.heap.size ∧ W.cell? ⟨bx, 0, none⟩ = some (.int .i64 (wrap64 (A.now (at_ + 8 + 2 * (n - 1 - k))))) ∧
      a' = { tmps := #[ptr lg, .int .i64 n, .pointer (some ⟨w.heap.size, 0, none⟩), .pointer (some ⟨w.heap.size + 1, 0, none⟩), .pointer (some ⟨w.heap.size + 1 + 1, 0, none⟩), .pointer (some ⟨bx, 0, none⟩), .int .i64 n, ptr lg,
          .pointer (some ⟨lg, 0, none⟩), .pointer (some ⟨lg, 0, none⟩), ptr b, .int .i64 ((A.n : Int) * 8), ptr lg, .int .i64 ((at_ : Int) + 8), .int .i64 ((A.n : Int) * 8 - (at_ + 8)), .int .i64 (((A.n : Int) * 8 - (at_ + 8)) / 2),
          .bool (decide (((A.n : Int) * 8 - (at_ + 8)) / 2 < n)), ptr lg, .int .i64 n, .func (.func 123) #[] #[.pointer (some ⟨W1.heap.size + 1, 0, none⟩), .pointer (some ⟨W1.heap.size, 0, none⟩)],
          come at_ n A.now k, undef, undef, undef, undef, undef, undef, undef, undef, undef], defers := [] })
    (fun _ => False) (fun _ _ => False) ?hJ ?hJA (fun _ _ h _ => h) ?hseq ?h0 ?hassign ?hbody ?hdone (fun _ h _ => h.elim) (fun _ _ h _ => h.elim))
  case hJ =>
    rintro k W W' ⟨h1, h2⟩ hf
    exact ⟨h1.trans' hf (fun j hj => .inr (by rcases hj with rfl | rfl <;> omega)), Nat.le_trans h2 hf.size⟩
  case hJA =>
    rintro k a W W' ⟨⟨h1, h2⟩, bx, g1, g2, g3, rfl⟩ hf
    exact ⟨⟨h1.trans' hf (fun j hj => .inr (by rcases hj with rfl | rfl <;> omega)), Nat.le_trans h2 hf.size⟩, bx, g1, Nat.lt_of_lt_of_le g2 hf.size, hf.cell' g3 (by rintro (e | e) <;> (simp at e; omega)), rfl⟩
  case hseq =>
    refine iter_ok (lg := lg) (b := b) (at_ := at_) (ws := ws) W1.heap.size (W1.heap.size + 1) n _ A.now _ (by omega) ?_
    rintro k W ⟨h1, h2⟩
    exact ⟨h1.cell' (unhide HX5) (fun h => h), h1.cell' (unhide HX4) (fun h => h), (unhide HL2).kept h1 (fun h => h), L, A, (unhide HD2).keptF h1, unhide HDD, hn, n8, fun _ _ _ => rfl⟩
  case h0 =>
    intro o1 o2
    exact ⟨((Fr.refl _ W2).alloc _).alloc _, by simp⟩
  case hassign =>
    rintro l k W K ⟨h1, h2⟩ hk hK
    unfold come
    gi_wp2
    exact hK _ _ ⟨⟨h1.alloc _, by simp; omega⟩, W.heap.size, h2, by simp, cell_of_row _ _ _ _ _ _ (heap_alloc_new W _), rfl⟩ (Below.heap_alloc W _ _ (by omega)) (Below.heap_alloc W _ _ (by omega))
  case hbody =>
    rintro l k a' W ⟨⟨h1, h2⟩, bx, g1, g2, g3, rfl⟩ hk
    have y1 := h1.cell' (unhide HY1) (fun h => h)
    have y2 := h1.cell' (unhide HY2) (fun h => h)
    have l3 := (unhide HL2).kept h1 (fun h => h)
    have d3 := (unhide HD2).keptF h1
    have d0 := d3.c0
    have hout := unhide HO (n - 1 - k) (by omega)
    have HL3 := hide l3; have H1 := hide h1; have HOUT := hide hout; have HD0 := hide d0
    clear l3 d3 h1 HL2 HD2 HF3 HY3 HX4 HX5 HY1 HY2 HDD HO hout d0
    unfold come
    gi_wp2_with fail
    refine region_tail 7 (by kernel_rfl) (by kernel_rfl) (by kernel_rfl) ?_
    simp only [List.take_succ_cons, List.take_zero, List.drop_succ_cons, List.drop_zero]
    repeat (gi_big_quiet_step (first | (gi_at_call 111; exact CallsIn.quiet_of_same (CallsIn.inRound l (callsIn_wide.2 (place_ok ((unhide HL3).drewN _) (by omega) n (by omega))))) | (gi_at_call 91; exact CallsIn.quiet_of_same (CallsIn.inRound l (callsIn_wide.2 (outside_yes ((unhide HL3).drewN _) n8 (unhide HD0) _ _ (unhide HOUT)))))))
    refine wpQuietIn_nil ?_
    rintro _ ⟨nq2, rfl⟩
    gi_wp2_with fail
    exact ⟨⟨rfl, rfl⟩, (unhide H1).drewN _, h2⟩
  case hdone =>
    rintro W ⟨h1, h2⟩ hD
    have y2 := h1.cell' (unhide HY2) (fun h => h)
    have z2 := unhide HZ2
    have y3 := (h1.block (w.heap.size + 2) (by omega) (fun h => h)).trans (unhide HY3)
    have y4 := cell_of_row W _ 0 _ _ _ y3
    have y5 := frozen_of_row W _ 0 _ _ y3
    have f4 := (unhide HF3).trans h1
    have HF4 := hide f4; have HDEF := hide hD; have HH2 := hide h2; have HZ := hide z2; have HY4 := hide y4
    clear h1 hD h2 f4 y3 z2 HL2 HD2 HF3 HY3 HX4 HX5 HY1 HY2 HDD HO HZ2
    show wpOf _ _ _ _ _ _
    refine wpOf_of_wp ?_
    go_wp2
    have z2 := unhide HZ
    have hK : (W.setCell ⟨w.heap.size + 2, 0, none⟩ (.int .i64 n)).heap[W2.heap.size]? = some (.deferred (some [])) := (Below.heap_setCell _ _ _ _ (by simp; omega)).trans (unhide HDEF)
    refine ⟨by simp, .inl ⟨_, _, rfl, run_takeDeferred hK, ?_⟩⟩
    have hc2 : ((W.setCell ⟨w.heap.size + 2, 0, none⟩ (.int .i64 n)).putObj W2.heap.size (.deferred none)).cell? ⟨w.heap.size + 2, 0, none⟩ = some (.int .i64 n) :=
      (World.cell?_of_block (World.putObj_heap_other (by simp; omega))).trans (World.cell?_setCell_same _ _ _ (unhide HY4))
    have hfr : Fr (fun _ => False) w ((W.setCell ⟨w.heap.size + 2, 0, none⟩ (.int .i64 n)).putObj W2.heap.size (.deferred none)) := ((unhide HF4).setCell (.inr (by simp)) _).putObj (.inr (by omega)) _
    generalize (W.setCell ⟨w.heap.size + 2, 0, none⟩ (.int .i64 n)).putObj W2.heap.size (.deferred none) = W5 at *
    refine ⟨.int .i64 n, ?_, rfl, hfr⟩
    simp [results, Tryz.results107, go_sem, hc2]
end
end Go.Proofs.YtdgobaknbjlahaaGreatDoor
