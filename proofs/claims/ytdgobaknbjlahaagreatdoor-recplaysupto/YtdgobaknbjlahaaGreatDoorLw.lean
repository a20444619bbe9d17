/- The law's own Open, tells, awake. -/
import Derived.Test.YtdgobaknbjlahaaGreatDoorOpnX
import Derived.Great.Ranges
import Derived.Great.Walk
import Derived.Laws.Rows
import Derived.Laws.Tables
namespace Go.Proofs.YtdgobaknbjlahaaGreatDoor
open Go.RowKit

set_option maxHeartbeats 1000000 in
theorem new_any (n : Nat) (h1 : 1 ≤ n) (h2 : n ≤ 8192) (w : World) : Calls Tryz.prog 44 #[.int .i64 ((n : Int) * 8)] w (NewOk n w) := by
  have m1 := make_lines n h2
  have m2 := make_ints n h2
  have e8 : ((n : Int) * 8 % 8 != 0) = false := by simp
  have ed : (n : Int) * 8 / 8 = n := by omega
  unfold NewOk
  go_enter Tryz.func44, Tryz.ntmps44
  go_wp2
  go_region
  all_goals
    go_wp2
    go_ret2
    refine ⟨rfl, new_close w n h2 _ _ _ _ _ _ (by simp) (by simp) (by simp) (by omega) (by omega) (by omega)⟩

set_option maxHeartbeats 400000 in
theorem new_bad (n : Int) (h : n < 8 ∨ 65536 < n ∨ n % 8 ≠ 0) (w : World) : Calls Tryz.prog 44 #[.int .i64 n] w fun e w' => e = .returned (.tuple #[.pointer none, .int .i64 1]) ∧ w' = w := by
  by_cases h1 : n < 8
  · clear h
    go_enter Tryz.func44, Tryz.ntmps44
    go_wp2
    go_ret2
    exact ⟨rfl, rfl⟩
  · by_cases h2 : 65536 < n
    · clear h
      go_enter Tryz.func44, Tryz.ntmps44
      go_wp2
      go_ret2
      exact ⟨rfl, rfl⟩
    · have e8 : (n % 8 != 0) = true := by simp; omega
      have h1' : 8 ≤ n := by omega
      have h2' : n ≤ 65536 := by omega
      clear h h1 h2
      go_enter Tryz.func44, Tryz.ntmps44
      go_wp2
      go_ret2
      exact ⟨rfl, rfl⟩

/-- A new store on a new device: all noughts. -/
structure Opd (w : World) (b sb n : Nat) (T : Tay) (A : Ab) (w' : World) : Prop where
  st : StL w' sb b T n A [] false
  fr : Still w w'
  new : ∀ k, tfoot sb b T k → w.heap.size ≤ k
  calm : ∃ N f, N * 8 = 12400 + n ∧ Calm N True A 12292 f ∧ Clean 0 12304 (fun _ => 0) f

theorem open_new (n N : Nat) (hn : N * 8 = 12400 + n) (hn0 : 0 < n) (w : World) {b : Nat} {L : Lay} {w1 : World} (d : DevL w1 b L (Ab.fresh N)) (f : Still w w1) (nw : ∀ k, foot b L k → w.heap.size ≤ k) :
    Calls Tryz.prog 45 #[ptr b] w1 fun e w' => ∃ sb T A, e = .returned (.tuple #[ptr sb, .int .i64 0]) ∧ Opd w b sb n T A w' := by
  refine (tx_open (free := True) (s := 0) (base := fun _ => 0) (xs := []) d (fresh_calm N True) (.inl (clean0 0 12304)) (by simp) hn hn0 (by omega)).mono ?_
  rintro e w' (⟨sb, rfl, hsb, o⟩ | ⟨_, D⟩)
  · obtain ⟨T, A', h', st, sub, c, ei⟩ := o.ex
    refine ⟨sb, T, A', rfl, st, f.trans' o.fr (fun k hk => .inr (nw k hk)), fun k hk => (sub k hk).elim (nw k) (fun x => Nat.le_trans f.size x), N, h', hn, by simpa using c, ?_⟩
    rcases ei with e | e
    · exact e
    · rw [List.reverse_nil, homed_nil] at e; exact e
  · obtain ⟨_, _, _, h, _⟩ := D
    exact absurd trivial h.1

theorem eq_nil_dev (b : Nat) (w : World) : (binOp .eql 23 (ptr b) (.pointer none)).run Tryz.prog w = .ok (.bool false) w := by kernel_rfl
theorem eq_nil_stor (b : Nat) (w : World) : (binOp .eql 24 (ptr b) (.pointer none)).run Tryz.prog w = .ok (.bool false) w := by kernel_rfl

set_option maxHeartbeats 1000000 in
theorem law_open (n N : Nat) (hn : N * 8 = 12400 + n) (hn0 : 0 < n) (hN : N ≤ 8192) (w : World) :
    Calls Tryz.prog 19 #[.int .i64 ((N : Int) * 8)] w fun e w' => ∃ b sb T A, e = .returned (.tuple #[ptr b, ptr sb]) ∧ Opd w b sb n T A w' := by
  have K := new_any N (by omega) hN w
  have HK := hide K
  have h1 := eq_nil_dev
  clear K
  go_enter Tryz.func19, Tryz.ntmps19
  go_wp2_with fail
  refine (unhide HK).mono ?_
  clear HK
  unfold NewOk
  rintro e w1 ⟨rfl, L, d, f, nw⟩
  have K2 := open_new n N hn hn0 w d f nw
  have HK := hide K2
  clear K2 d f nw
  go_wp2_with fail
  refine (unhide HK).mono ?_
  clear HK
  rintro e w2 ⟨sb, T, A, rfl, o⟩
  have HO := hide o
  clear o
  go_wp2
  go_ret2
  exact ⟨_, sb, T, A, rfl, unhide HO⟩

theorem arr_size (n : Nat) (f : Nat → Int) : (arr n f).size = n := by simp [arr]
theorem arr_one (n : Nat) (f : Nat → Int) : (arr n f).all (·.oneCell') = true := by
  rw [Array.all_eq_true]
  intro i hi
  simp [arr]; rfl
theorem Fr.setRow (w : World) (g : Nat) (cs : Array Value) : Fr (fun r => r = g) w (w.setRow g cs) :=
  ⟨rfl, rfl, rfl, by simp [World.setRow], fun k _ hk => setRow_other w g k cs hk⟩

/-- The first m words agree. -/
def agree (h g : Nat → Int) (m : Nat) : Bool := decide (∀ j, j < m → h j = g j)
theorem agree_succ (h g : Nat → Int) (m : Nat) : agree h g (m + 1) = (agree h g m && (h m == g m)) := by
  unfold agree
  rw [Bool.eq_iff_iff]
  simp only [decide_eq_true_eq, Bool.and_eq_true, beq_iff_eq]
  constructor
  · exact fun H => ⟨fun j h1 => H j (by omega), H m (by omega)⟩
  · rintro ⟨H1, H2⟩ j h2
    by_cases e : j = m
    · subst e; exact H2
    · exact H1 j (by omega)
theorem agree_0 (h g : Nat → Int) : agree h g 0 = true := by simp [agree]
theorem agree_not {h g : Nat → Int} {m : Nat} (hm : m < 16) (e : h m ≠ g m) : agree h g 16 = false := by
  simp only [agree, decide_eq_false_iff_not]
  exact fun H => e (H m hm)

section
variable {w w' : World} {sb b : Nat} {T : Tay} {n : Nat} {A : Ab} {P : List (Int × Int)}

/-- What the store tells. -/
abbrev says (P : List (Int × Int)) (A : Ab) : Nat → Int := fun i => homed P A.now (12400 + i)

end

/-- A store that is new since w0, beside the law's own blocks X. -/
structure Hold (w0 : World) (X : Nat → Prop) (w : World) (sb b n : Nat) (T : Tay) (A : Ab) (P : List (Int × Int)) (dd : Bool) : Prop where
  st : StL w sb b T n A P dd
  fr : Still w0 w
  new : ∀ k, tfoot sb b T k → w0.heap.size ≤ k
  ap : ∀ k, X k → ¬ tfoot sb b T k
  xl : ∀ k, X k → w0.heap.size ≤ k ∧ k < w.heap.size

section
variable {w w' w0 : World} {X Y : Nat → Prop} {sb b : Nat} {T T' : Tay} {n N : Nat} {A A' : Ab} {P P' : List (Int × Int)} {dd dd' : Bool} {s : Int} {f base : Nat → Int} {free : Prop}

theorem Opd.hold (o : Opd w0 b sb n T A w) : Hold w0 (fun _ => False) w sb b n T A [] false := ⟨o.st, o.fr, o.new, fun _ x => x.elim, fun _ x => x.elim⟩
theorem Hold.call (h : Hold w0 X w sb b n T A P dd) (o : Onx w sb b T w' T' n A' P' dd') : Hold w0 X w' sb b n T' A' P' dd' :=
  ⟨o.st, h.fr.trans' o.fr (fun k hk => .inr (h.new k hk)), fun k hk => (o.sub k hk).elim (h.new k) (fun x => Nat.le_trans h.fr.size x), fun k hk => o.other (h.xl k hk).2 (h.ap k hk), fun k hk => ⟨(h.xl k hk).1, Nat.lt_of_lt_of_le (h.xl k hk).2 o.fr.size⟩⟩
theorem Hold.still (h : Hold w0 X w sb b n T A P dd) (hf : Still w w') : Hold w0 X w' sb b n T A P dd :=
  ⟨h.st.still hf, h.fr.trans' hf (fun _ x => x.elim), h.new, h.ap, fun k hk => ⟨(h.xl k hk).1, Nat.lt_of_lt_of_le (h.xl k hk).2 hf.size⟩⟩
theorem Hold.var (h : Hold w0 X w sb b n T A P dd) {F : Nat → Prop} (hf : Fr F w w') (hF : ∀ k, F k → X k) : Hold w0 X w' sb b n T A P dd :=
  ⟨h.st.kept hf (fun k hk hFk => h.ap k (hF k hFk) hk), h.fr.trans' hf (fun k hk => .inr (h.xl k (hF k hk)).1), h.new, h.ap, fun k hk => ⟨(h.xl k hk).1, Nat.lt_of_lt_of_le (h.xl k hk).2 hf.size⟩⟩
/-- One more block of the law's own. -/
theorem Hold.more (h : Hold w0 X w sb b n T A P dd) (o : Obj) : Hold w0 (fun k => X k ∨ k = w.heap.size) (w.alloc o) sb b n T A P dd := by
  have f1 : Still w (w.alloc o) := (Fr.refl _ w).alloc o
  have h1 := h.still f1
  have sz : (w.alloc o).heap.size = w.heap.size + 1 := by simp
  refine ⟨h1.st, h1.fr, h1.new, fun k hk => ?_, fun k hk => ?_⟩
  · rcases hk with hk | rfl
    · exact h.ap k hk
    · exact fun ht => by have := h.st.lt _ ht; omega
  · rcases hk with hk | rfl
    · exact h1.xl k hk
    · exact ⟨h.fr.size, by omega⟩
theorem Hold.sub (h : Hold w0 X w sb b n T A P dd) (hX : ∀ k, Y k → X k) : Hold w0 Y w sb b n T A P dd := ⟨h.st, h.fr, h.new, fun k hk => h.ap k (hX k hk), fun k hk => h.xl k (hX k hk)⟩

/-- A Do of a change that ends well, while there is no fuse. -/
theorem do_well {g : Nat} {fi ca : Array Value} {Q : List (Int × Int) → Prop} (h : StL w sb b T n A P false) (c : Calm N True A s f) (hc : Clean 0 12304 base f) (hf : Change w sb b T n A (.func (.func g) fi ca) fun h P' => h = .well ∧ Q P') (hs : s + 30729 < 4294967296) :
    Calls Tryz.prog 7 #[ptr sb, .func (.func g) fi ca] w fun e w' => e = .returned (.int .i64 0) ∧ ∃ P' T' A' f', Q P' ∧ Onx w sb b T w' T' n A' [] false ∧ Calm N True A' (s + 30729) f' ∧ Clean 0 12304 (homed P' base) f' := by
  refine (t_do h c hc hf hs).mono ?_
  rintro e w' (⟨P', ⟨_, q⟩, rfl, T', A', o, f', c', k⟩ | ⟨_, _, _, _, _, _, hn, _⟩ | ⟨i, P', ⟨e, _⟩, _⟩ | ⟨y, P', ⟨e, _⟩, _⟩)
  · exact ⟨rfl, P', T', A', f', q, o, c', k⟩
  · exact absurd trivial hn
  · injection e with e; cases e
  · injection e with e; cases e

/-- A Do of a change that ends by an error. -/
theorem do_err {g : Nat} {fi ca : Array Value} {i : Int} (h : StL w sb b T n A P false) (c : Calm N free A s f) (hc : Clean 0 12304 base f) (hf : Change w sb b T n A (.func (.func g) fi ca) fun h _ => h = .errno i) (hs : s + 30729 < 4294967296) :
    Calls Tryz.prog 7 #[ptr sb, .func (.func g) fi ca] w fun e w' => e = .returned (.int .i64 i) ∧ ∃ T', Onx w sb b T w' T' n A [] false := by
  refine (t_do h c hc hf hs).mono ?_
  rintro e w' (⟨P', e, _⟩ | ⟨P', e, _⟩ | ⟨j, P', e, rfl, o⟩ | ⟨y, P', e, _⟩)
  · injection e with e; cases e
  · injection e with e; cases e
  · have : j = i := by injection e with e; injection e with e; injection e with _ e; injection e
    subst this
    exact ⟨rfl, o⟩
  · have : 9 = 33 := by injection e with e; injection e with e; injection e
    exact absurd this (by decide)

theorem once_nil : Once [] := fun p q x y hp => by simp at hp
end

section
variable {w : World} {sb b bs : Nat} {T : Tay} {n : Nat} {A : Ab} {P : List (Int × Int)}
end

end Go.Proofs.YtdgobaknbjlahaaGreatDoor
