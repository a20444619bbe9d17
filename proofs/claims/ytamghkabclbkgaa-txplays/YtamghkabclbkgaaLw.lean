/- The law's own Open, tells, awake. -/
import Derived.Test.YtamghkabclbkgaaOpnX
import Derived.Great.Ranges
import Derived.Great.Walk
import Derived.Laws.Rows
import Derived.Laws.Tables
namespace Go.Proofs.Ytamghkabclbkgaa
open Go.RowKit

set_option maxHeartbeats 1000000 in
theorem new_any (n : Nat) (h1 : 1 ≤ n) (h2 : n ≤ 8192) (w : World) : Calls Try.prog 39 #[.int .i64 ((n : Int) * 8)] w (NewOk n w) := by
  have m1 := make_lines n h2
  have m2 := make_ints n h2
  have e8 : ((n : Int) * 8 % 8 != 0) = false := by simp
  have ed : (n : Int) * 8 / 8 = n := by omega
  unfold NewOk
  go_enter Try.func39, Try.ntmps39
  go_wp2
  go_region
  all_goals
    go_wp2
    go_ret2
    refine ⟨rfl, new_close w n h2 _ _ _ _ _ _ (by simp) (by simp) (by simp) (by omega) (by omega) (by omega)⟩

set_option maxHeartbeats 400000 in
theorem new_bad (n : Int) (h : n < 8 ∨ 65536 < n ∨ n % 8 ≠ 0) (w : World) : Calls Try.prog 39 #[.int .i64 n] w fun e w' => e = .returned (.tuple #[.pointer none, .int .i64 1]) ∧ w' = w := by
  by_cases h1 : n < 8
  · clear h
    go_enter Try.func39, Try.ntmps39
    go_wp2
    go_ret2
    exact ⟨rfl, rfl⟩
  · by_cases h2 : 65536 < n
    · clear h
      go_enter Try.func39, Try.ntmps39
      go_wp2
      go_ret2
      exact ⟨rfl, rfl⟩
    · have e8 : (n % 8 != 0) = true := by simp; omega
      have h1' : 8 ≤ n := by omega
      have h2' : n ≤ 65536 := by omega
      clear h h1 h2
      go_enter Try.func39, Try.ntmps39
      go_wp2
      go_ret2
      exact ⟨rfl, rfl⟩

/-- A new store on a new device: all noughts. -/
structure Opd (w : World) (b sb n : Nat) (T : Tay) (A : Ab) (w' : World) : Prop where
  st : StL w' sb b T n A [] false
  fr : Still w w'
  new : ∀ k, tfoot sb b T k → w.heap.size ≤ k
  calm : ∃ N f, N * 8 = 12400 + n ∧ Calm N True A 12292 f ∧ Clean 0 12304 (fun _ => 0) f

theorem open_new (n N : Nat) (hn : N * 8 = 12400 + n) (hn0 : 0 < n) (w : World) {b : Nat} {L : Lay} {w1 : World} (d : DevL w1 b L (Ab.fresh N)) (f : Still w w1) (nw : ∀ k, foot b L k → w.heap.size ≤ k) :
    Calls Try.prog 16 #[ptr b] w1 fun e w' => ∃ sb T A, e = .returned (.tuple #[ptr sb, .int .i64 0]) ∧ Opd w b sb n T A w' := by
  refine (tx_open (free := True) (s := 0) (base := fun _ => 0) (xs := []) d (fresh_calm N True) (.inl (clean0 0 12304)) (by simp) hn hn0 (by omega)).mono ?_
  rintro e w' (⟨sb, rfl, hsb, o⟩ | ⟨_, D⟩)
  · obtain ⟨T, A', h', st, sub, c, ei⟩ := o.ex
    refine ⟨sb, T, A', rfl, st, f.trans' o.fr (fun k hk => .inr (nw k hk)), fun k hk => (sub k hk).elim (nw k) (fun x => Nat.le_trans f.size x), N, h', hn, by simpa using c, ?_⟩
    rcases ei with e | e
    · exact e
    · rw [List.reverse_nil, homed_nil] at e; exact e
  · obtain ⟨_, _, _, h, _⟩ := D
    exact absurd trivial h.1

theorem eq_nil_dev (b : Nat) (w : World) : (binOp .eql 23 (ptr b) (.pointer none)).run Try.prog w = .ok (.bool false) w := by kernel_rfl
theorem eq_nil_stor (b : Nat) (w : World) : (binOp .eql 24 (ptr b) (.pointer none)).run Try.prog w = .ok (.bool false) w := by kernel_rfl

set_option maxHeartbeats 1000000 in
theorem law_open (n N : Nat) (hn : N * 8 = 12400 + n) (hn0 : 0 < n) (hN : N ≤ 8192) (w : World) :
    Calls Try.prog 9 #[.int .i64 ((N : Int) * 8)] w fun e w' => ∃ b sb T A, e = .returned (.tuple #[ptr b, ptr sb]) ∧ Opd w b sb n T A w' := by
  have K := new_any N (by omega) hN w
  have HK := hide K
  have h1 := eq_nil_dev
  clear K
  go_enter Try.func9, Try.ntmps9
  go_wp2_with fail
  refine (unhide HK).mono ?_
  clear HK
  unfold NewOk
  rintro e w1 ⟨rfl, L, d, f, nw⟩
  have K2 := open_new n N hn hn0 w d f nw
  have HK := hide K2
  clear K2 d f nw
  go_wp2_with fail
  refine (unhide HK).mono ?_
  clear HK
  rintro e w2 ⟨sb, T, A, rfl, o⟩
  have HO := hide o
  clear o
  go_wp2
  go_ret2
  exact ⟨_, sb, T, A, rfl, unhide HO⟩

theorem arr_size (n : Nat) (f : Nat → Int) : (arr n f).size = n := by simp [arr]
theorem arr_one (n : Nat) (f : Nat → Int) : (arr n f).all (·.oneCell') = true := by
  rw [Array.all_eq_true]
  intro i hi
  simp [arr]; rfl
theorem info_arr (f : Nat → Int) : (Try.prog.info? 29).map (·.size) = some (arr 16 f).size := by
  rw [arr_size]; kernel_rfl
theorem alloc_arr (w : World) : (Instr.alloc 29 true (.tuple #[])).run Try.prog w = .ok (.pointer (some ⟨w.heap.size, 0, none⟩)) (w.alloc (.cells (arr 16 fun _ => 0) 29)) := by kernel_rfl

theorem Fr.setRow (w : World) (g : Nat) (cs : Array Value) : Fr (fun r => r = g) w (w.setRow g cs) :=
  ⟨rfl, rfl, rfl, by simp [World.setRow], fun k _ hk => setRow_other w g k cs hk⟩

/-- A block that holds sixteen words. -/
def ArrAt (w : World) (g : Nat) (f : Nat → Int) : Prop := w.heap[g]? = some (.cells (arr 16 f) 29 (0, 0))
section
variable {w w' : World} {g : Nat} {f : Nat → Int}
theorem ArrAt.lt (h : ArrAt w g f) : g < w.heap.size := by
  unfold ArrAt at h
  exact (Array.getElem?_eq_some_iff.1 h).1
theorem ArrAt.kept (h : ArrAt w g f) {F : Nat → Prop} (hf : Fr F w w') (n : ¬ F g) : ArrAt w' g f := (hf.block g h.lt n).trans h
theorem ArrAt.set (h : ArrAt w g f) (i : Nat) (v : Int) : ArrAt (w.setCell ⟨g, i, none⟩ (u64 v)) g (upd f i v) := by
  have := heap_setCell_same w g i _ _ (u64 v) h
  rw [arr_set] at this; exact this
theorem ArrAt.cell (h : ArrAt w g f) (j : Nat) (hj : j < 16) : w.cell? ⟨g, j, none⟩ = some (u64 (f j)) := by
  rw [cell_of_row _ _ _ _ _ _ h, arr_get _ _ _ hj]
theorem ArrAt.frozen (h : ArrAt w g f) (j : Nat) : w.frozen? ⟨g, j, none⟩ = false := by
  unfold ArrAt at h; unfold World.frozen?; rw [h]; simp
theorem ArrAt.new (w : World) (f : Nat → Int) : ArrAt (w.alloc (.cells (arr 16 f) 29)) w.heap.size f := heap_alloc_new w _
end

/-- The first m words agree. -/
def agree (h g : Nat → Int) (m : Nat) : Bool := decide (∀ j, j < m → h j = g j)
theorem agree_succ (h g : Nat → Int) (m : Nat) : agree h g (m + 1) = (agree h g m && (h m == g m)) := by
  unfold agree
  rw [Bool.eq_iff_iff]
  simp only [decide_eq_true_eq, Bool.and_eq_true, beq_iff_eq]
  constructor
  · exact fun H => ⟨fun j h1 => H j (by omega), H m (by omega)⟩
  · rintro ⟨H1, H2⟩ j h2
    by_cases e : j = m
    · subst e; exact H2
    · exact H1 j (by omega)
theorem agree_0 (h g : Nat → Int) : agree h g 0 = true := by simp [agree]
theorem agree_not {h g : Nat → Int} {m : Nat} (hm : m < 16) (e : h m ≠ g m) : agree h g 16 = false := by
  simp only [agree, decide_eq_false_iff_not]
  exact fun H => e (H m hm)

section
variable {w w' : World} {sb b : Nat} {T : Tay} {n : Nat} {A : Ab} {P : List (Int × Int)}

/-- What the store tells. -/
abbrev says (P : List (Int × Int)) (A : Ab) : Nat → Int := fun i => homed P A.now (12400 + i)

set_option maxRecDepth 100000 in
set_option maxHeartbeats 2000000 in
theorem tells_ok (g : Nat → Int) (h : StL w sb b T n A P false) (ha : A.dead = false) (hn : 16 ≤ n) :
    Calls Try.prog 13 #[ptr sb, .agg (arr 16 g)] w fun e w' => e = .returned (.bool (agree (says P A) g 16)) ∧ Still w w' := by
  have HA := alloc_arr
  have HH := hide h
  clear h
  go_enter Try.func13, Try.ntmps13
  go_wp2_with (first | (refine Great.wpList_boxTo rfl 29 _ rfl _ rfl _ rfl (arr 16 g) rfl ?_) | fail)
  clear HA
  go_loopw [5] (fun i wr => ∃ m : Nat, m ≤ 16 ∧ i = .int .i64 m ∧ agree (says P A) g m = true ∧ ArrAt wr w.heap.size g ∧ Still w wr) (fun i wr => 16 - (intOf i).toNat)
  case atStart => exact ⟨0, by omega, rfl, agree_0 _ _, ArrAt.new w g, (Fr.refl _ w).alloc _⟩
  case round =>
    obtain ⟨m, hm, rfl, hag, har, hf⟩ := hrel
    by_cases hlt : m < 16
    · have LD : ∀ q, Calls Try.prog 24 #[ptr sb, .int .i64 m] (wr.drewN q) _ := fun q => t_load ((unhide HH).still (hf.drewN q)) ha m (by omega)
      have a1 := har.cell m hlt
      have HLD := @hide _ LD
      have HS := hide (And.intro hag (And.intro har hf))
      clear LD hag har hf
      go_wp2_with fail
      refine region_tailP 6 (by kernel_rfl) (by kernel_rfl) ?_
      simp only [List.take_succ_cons, List.take_zero, List.drop_succ_cons, List.drop_zero]
      repeat (go_big_quiet_step (first | (go_at_call 24; exact Calls.quiet_of_same (unhide HLD _))))
      refine wpQuiet_nil ?_
      rintro _ ⟨nq, rfl⟩
      clear HLD a1
      by_cases e : says P A m = g m
      · have e' : (homed P A.now (12400 + m) != g m) = false := by simp; exact e
        go_wp2
        obtain ⟨hag, har, hf⟩ := unhide HS
        exact ⟨⟨m + 1, by omega, by go_num, by rw [agree_succ, hag]; simpa using e, har.kept ((Fr.refl (fun _ => False) wr).drewN nq) (fun x => x), hf.drewN nq⟩, by simp [intOf]; omega⟩
      · have e' : (homed P A.now (12400 + m) != g m) = true := by simp; exact e
        go_wp2
        go_ret
        obtain ⟨hag, har, hf⟩ := unhide HS
        exact ⟨by rw [agree_not hlt e]; rfl, hf.drewN nq⟩
    · have : m = 16 := by omega
      subst this
      have HS := hide (And.intro hag hf)
      clear hag har hf
      go_wp2
      go_ret
      obtain ⟨hag, hf⟩ := unhide HS
      exact ⟨by rw [hag]; rfl, hf⟩
end

/-- A store that is new since w0, beside the law's own blocks X. -/
structure Hold (w0 : World) (X : Nat → Prop) (w : World) (sb b n : Nat) (T : Tay) (A : Ab) (P : List (Int × Int)) (dd : Bool) : Prop where
  st : StL w sb b T n A P dd
  fr : Still w0 w
  new : ∀ k, tfoot sb b T k → w0.heap.size ≤ k
  ap : ∀ k, X k → ¬ tfoot sb b T k
  xl : ∀ k, X k → w0.heap.size ≤ k ∧ k < w.heap.size

section
variable {w w' w0 : World} {X Y : Nat → Prop} {sb b : Nat} {T T' : Tay} {n N : Nat} {A A' : Ab} {P P' : List (Int × Int)} {dd dd' : Bool} {s : Int} {f base : Nat → Int} {free : Prop}

theorem Opd.hold (o : Opd w0 b sb n T A w) : Hold w0 (fun _ => False) w sb b n T A [] false := ⟨o.st, o.fr, o.new, fun _ x => x.elim, fun _ x => x.elim⟩
theorem Hold.call (h : Hold w0 X w sb b n T A P dd) (o : Onx w sb b T w' T' n A' P' dd') : Hold w0 X w' sb b n T' A' P' dd' :=
  ⟨o.st, h.fr.trans' o.fr (fun k hk => .inr (h.new k hk)), fun k hk => (o.sub k hk).elim (h.new k) (fun x => Nat.le_trans h.fr.size x), fun k hk => o.other (h.xl k hk).2 (h.ap k hk), fun k hk => ⟨(h.xl k hk).1, Nat.lt_of_lt_of_le (h.xl k hk).2 o.fr.size⟩⟩
theorem Hold.still (h : Hold w0 X w sb b n T A P dd) (hf : Still w w') : Hold w0 X w' sb b n T A P dd :=
  ⟨h.st.still hf, h.fr.trans' hf (fun _ x => x.elim), h.new, h.ap, fun k hk => ⟨(h.xl k hk).1, Nat.lt_of_lt_of_le (h.xl k hk).2 hf.size⟩⟩
theorem Hold.var (h : Hold w0 X w sb b n T A P dd) {F : Nat → Prop} (hf : Fr F w w') (hF : ∀ k, F k → X k) : Hold w0 X w' sb b n T A P dd :=
  ⟨h.st.kept hf (fun k hk hFk => h.ap k (hF k hFk) hk), h.fr.trans' hf (fun k hk => .inr (h.xl k (hF k hk)).1), h.new, h.ap, fun k hk => ⟨(h.xl k hk).1, Nat.lt_of_lt_of_le (h.xl k hk).2 hf.size⟩⟩
/-- One more block of the law's own. -/
theorem Hold.more (h : Hold w0 X w sb b n T A P dd) (o : Obj) : Hold w0 (fun k => X k ∨ k = w.heap.size) (w.alloc o) sb b n T A P dd := by
  have f1 : Still w (w.alloc o) := (Fr.refl _ w).alloc o
  have h1 := h.still f1
  have sz : (w.alloc o).heap.size = w.heap.size + 1 := by simp
  refine ⟨h1.st, h1.fr, h1.new, fun k hk => ?_, fun k hk => ?_⟩
  · rcases hk with hk | rfl
    · exact h.ap k hk
    · exact fun ht => by have := h.st.lt _ ht; omega
  · rcases hk with hk | rfl
    · exact h1.xl k hk
    · exact ⟨h.fr.size, by omega⟩
theorem Hold.sub (h : Hold w0 X w sb b n T A P dd) (hX : ∀ k, Y k → X k) : Hold w0 Y w sb b n T A P dd := ⟨h.st, h.fr, h.new, fun k hk => h.ap k (hX k hk), fun k hk => h.xl k (hX k hk)⟩

/-- A Do of a change that ends well, while there is no fuse. -/
theorem do_well {g : Nat} {fi ca : Array Value} {Q : List (Int × Int) → Prop} (h : StL w sb b T n A P false) (c : Calm N True A s f) (hc : Clean 0 12304 base f) (hf : Change w sb b T n A (.func (.func g) fi ca) fun h P' => h = .well ∧ Q P') (hs : s + 30729 < 4294967296) :
    Calls Try.prog 20 #[ptr sb, .func (.func g) fi ca] w fun e w' => e = .returned (.int .i64 0) ∧ ∃ P' T' A' f', Q P' ∧ Onx w sb b T w' T' n A' [] false ∧ Calm N True A' (s + 30729) f' ∧ Clean 0 12304 (homed P' base) f' := by
  refine (t_do h c hc hf hs).mono ?_
  rintro e w' (⟨P', ⟨_, q⟩, rfl, T', A', o, f', c', k⟩ | ⟨_, _, _, _, _, _, hn, _⟩ | ⟨i, P', ⟨e, _⟩, _⟩ | ⟨y, P', ⟨e, _⟩, _⟩)
  · exact ⟨rfl, P', T', A', f', q, o, c', k⟩
  · exact absurd trivial hn
  · injection e with e; cases e
  · injection e with e; cases e

/-- A Do of a change that ends by an error. -/
theorem do_err {g : Nat} {fi ca : Array Value} {i : Int} (h : StL w sb b T n A P false) (c : Calm N free A s f) (hc : Clean 0 12304 base f) (hf : Change w sb b T n A (.func (.func g) fi ca) fun h _ => h = .errno i) (hs : s + 30729 < 4294967296) :
    Calls Try.prog 20 #[ptr sb, .func (.func g) fi ca] w fun e w' => e = .returned (.int .i64 i) ∧ ∃ T', Onx w sb b T w' T' n A [] false := by
  refine (t_do h c hc hf hs).mono ?_
  rintro e w' (⟨P', e, _⟩ | ⟨P', e, _⟩ | ⟨j, P', e, rfl, o⟩ | ⟨y, P', e, _⟩)
  · injection e with e; cases e
  · injection e with e; cases e
  · have : j = i := by injection e with e; injection e with e; injection e with _ e; injection e
    subst this
    exact ⟨rfl, o⟩
  · have : 9 = 36 := by injection e with e; injection e with e; injection e
    exact absurd this (by decide)

theorem once_nil : Once [] := fun p q x y hp => by simp at hp
end

section
variable {w : World} {sb b bs : Nat} {T : Tay} {n : Nat} {A : Ab} {P : List (Int × Int)}
set_option maxHeartbeats 400000 in
theorem clo_a1 (h : StL w sb b T n A P false) (ha : A.dead = false) (hn : 0 < n) (hb : P.length < 6144) (bc : w.cell? ⟨bs, 0, none⟩ = some (ptr sb)) :
    Calls Try.prog 53 #[ptr bs] w fun e w' => e = .returned (.tuple #[]) ∧ ∃ T', Onx w sb b T w' T' n A (put P 12400 5) false := by
  have K : Calls Try.prog 12 #[ptr sb, .int .i64 0, u64 5] w _ := t_put h ha 0 5 hn (.inl hb)
  have HK := hide K
  clear K h
  go_enter Try.func53, Try.ntmps53
  go_wp2_with fail
  refine (unhide HK).mono ?_
  clear HK
  rintro e w1 ⟨rfl, T', -, o⟩
  have HO := hide o
  clear o
  go_wp2
  go_end0
  exact ⟨rfl, T', unhide HO⟩

set_option maxHeartbeats 400000 in
theorem clo_a2 (h : StL w sb b T n A P false) (ha : A.dead = false) (hn : 0 < n) (hb : P.length < 6144) (bc : w.cell? ⟨bs, 0, none⟩ = some (ptr sb)) :
    Calls Try.prog 54 #[ptr bs] w fun e w' => e = .panicked (errnoP 60) ∧ ∃ T', Onx w sb b T w' T' n A (put P 12400 6) false := by
  have K : Calls Try.prog 12 #[ptr sb, .int .i64 0, u64 6] w _ := t_put h ha 0 6 hn (.inl hb)
  have HK := hide K
  clear K h
  go_enter Try.func54, Try.ntmps54
  go_wp2_with fail
  refine (unhide HK).mono ?_
  clear HK
  rintro e w1 ⟨rfl, T', -, o⟩
  have HO := hide o
  clear o
  go_wp2
  exact ⟨rfl, rfl, T', unhide HO⟩
end

set_option maxHeartbeats 2000000 in
theorem awake_ok (w : World) : Calls Try.prog 17 #[] w fun e w' => e = .returned (.bool true) ∧ Still w w' := by
  have K : Calls Try.prog 9 #[.int .i64 13008] w _ := law_open 608 1626 (by omega) (by omega) (by omega) w
  have HK := hide K
  have h1 := eq_nil_stor
  have h2 := mf
  clear K
  go_enter Try.func17, Try.ntmps17
  go_wp2_with fail
  refine (unhide HK).mono ?_
  clear HK
  rintro e w1 ⟨b, sb, T, A, rfl, o⟩
  obtain ⟨N, f, hN, c, k⟩ := o.calm
  obtain ⟨W, hW⟩ : ∃ W, w1.alloc (.cells #[ptr sb] 24) = W := ⟨_, rfl⟩
  have hd : Hold w (fun r => False ∨ r = w1.heap.size) W sb b 608 T A [] false := hW ▸ o.hold.more _
  have bx : Box W w1.heap.size (ptr sb) := hW ▸ Box.new w1 (ptr sb) 24
  have SZ : Calls Try.prog 19 #[ptr sb] W _ := t_size hd.st.c2
  have bc := bx.c
  have D1 := do_well (Q := fun P' => P' = put [] 12400 5) hd.st c k (g := 53) (fi := #[]) (ca := #[ptr w1.heap.size]) (fun w2 f2 => acts_of (fun _ _ => by kernel_rfl) ((clo_a1 (hd.st.still f2) c.dead (by omega) (by simp) (f2.cell' bc (fun x => x))).mono (by
    rintro e w3 ⟨rfl, T', o⟩
    exact ⟨.well, rfl, .inl rfl, T', _, o, rfl, rfl⟩))) (by omega)
  have HH := hide hd; have HB := hide bx; have HD1 := hide D1; have HSZ := hide SZ
  clear D1 o k hd bx SZ c
  go_wp2_with (first | (go_at_call 19; refine (unhide HSZ).mono ?_; rintro e w' ⟨rfl, hh⟩; replace hh := hh.symm; subst hh) | (go_at_call 18; refine (room_ok _ (by decide) (by decide) _).mono ?_; rintro e w' ⟨rfl, hh⟩; replace hh := hh.symm; subst hh) | fail)
  refine (unhide HD1).mono ?_
  clear HD1 HSZ
  rintro e w3 ⟨rfl, P', T3, A3, f3, rfl, o3, c3, k3⟩
  have hd3 := (unhide HH).call o3
  have nt := (unhide HH).ap _ (.inr rfl)
  have bx3 := (unhide HB).kept o3.fr nt
  have bc3 := bx3.c
  have D2 := do_err (i := 60) hd3.st c3 k3 (g := 54) (fi := #[]) (ca := #[ptr w1.heap.size]) (fun w2 f2 => acts_of (fun _ _ => by kernel_rfl) ((clo_a2 (hd3.st.still f2) c3.dead (by omega) (by simp) (f2.cell' bc3 (fun x => x))).mono (by
    rintro e w5 ⟨rfl, T', o⟩
    exact ⟨.errno 60, How.ended_one _ _, .inr (.inl ⟨60, rfl⟩), T', _, o, rfl⟩))) (by omega)
  have val : A3.now 12400 = 5 := by
    rw [c3.now, k3.out 12400 (by omega)]
    have := (homed_put once_nil 12400 5 (fun _ => 0)).1
    rw [show (12400 : Int) = ((12400 : Nat) : Int) from rfl, this, upd_same]
  have HH3 := hide hd3; have HB3 := hide bx3; have HD2 := hide D2; have HC3 := hide c3
  clear D2 hd3 nt bx3 o3 c3 k3 HH HB bc
  go_wp2_with fail
  refine (unhide HD2).mono ?_
  clear HD2
  rintro e w4 ⟨rfl, T4, o4⟩
  have hd4 := (unhide HH3).call o4
  have bx4 := (unhide HB3).kept o4.fr ((unhide HH3).ap _ (.inr rfl))
  have bc4 := bx4.c
  have LD : Calls Try.prog 24 #[ptr sb, .int .i64 0] w4 fun e w' => e = .returned (u64 (A3.now 12400)) ∧ w' = w4 := t_load hd4.st (unhide HC3).dead 0 (by omega)
  rw [val] at LD
  have HLD := hide LD; have HF := hide hd4.fr
  clear LD hd4 bx4 o4 HH3 HB3 bc3 HC3 val
  go_wp2_with (go_at_call 24; refine (unhide HLD).mono ?_; rintro e w' ⟨rfl, hh⟩; replace hh := hh.symm; subst hh)
  go_ret
  exact ⟨rfl, unhide HF⟩
end Go.Proofs.Ytamghkabclbkgaa
