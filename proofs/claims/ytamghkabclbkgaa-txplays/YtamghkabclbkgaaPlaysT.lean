/- A change of TxPlays, told. -/
import Derived.Test.YtamghkabclbkgaaPlaysC
namespace Go.Proofs.Ytamghkabclbkgaa
open Go.RowKit

/-- The store behind it, and the error's own block. -/
structure PlOut (W : World) (sb b xb : Nat) (T T' : Tay) (A' : Ab) (r : Int) (w2 : World) : Prop where
  st : StL w2 sb b T' 608 A' [] false
  fr : Fr (fun k => tfoot sb b T k ∨ k = xb) W w2
  sub : ∀ k, tfoot sb b T' k → tfoot sb b T k ∨ W.heap.size ≤ k
  bx : Box w2 xb (.int .i64 r)

section
variable {w0 W w2 : World} {X : Nat → Prop} {sb b bs lb eb xb N : Nat} {T T' : Tay} {A A' : Ab} {Y : Nat → Prop} {vv : Value} {ls : List Op7} {kd ei ev r : Int} {f base : Nat → Int} {s : Int}

theorem PlOut.turn (o : PlOut W sb b xb T T' A' r w2) {w3 : World} {F : Nat → Prop} (hf : Fr F w2 w3) (h1 : ∀ k, F k → ¬ tfoot sb b T' k ∧ k ≠ xb ∧ W.heap.size ≤ k) : PlOut W sb b xb T T' A' r w3 :=
  ⟨o.st.kept hf (fun k hk hF => (h1 k hF).1 hk), o.fr.trans' hf (fun k hk => .inr (h1 k hk).2.2), o.sub, o.bx.kept hf (fun x => (h1 _ x).2.1 rfl)⟩

theorem Hold.out (h : Hold w0 X W sb b 608 T A [] false) (hx : X xb) (o : PlOut W sb b xb T T' A' r w2) : Hold w0 X w2 sb b 608 T' A' [] false :=
  ⟨o.st, h.fr.trans' o.fr (fun k hk => hk.elim (fun x => .inr (h.new k x)) (fun x => .inr (by rw [x]; exact (h.xl _ hx).1))), fun k hk => (o.sub k hk).elim (h.new k) (fun x => Nat.le_trans h.fr.size x), fun k hk ht => (o.sub k ht).elim (h.ap k hk) (fun x => by have := (h.xl k hk).2; omega), fun k hk => ⟨(h.xl k hk).1, Nat.lt_of_lt_of_le (h.xl k hk).2 o.fr.size⟩⟩

/-- How a change ends. -/
def Four (ls : List Op7) (kd ev : Int) (N : Nat) (s : Int) (base : Nat → Int) (A A' : Ab) (how r : Int) : Prop :=
  ((∃ x ∈ ls, off x) ∧ how = 0 ∧ r = 1 ∧ A' = A) ∨
  ((∀ x ∈ ls, ¬ off x) ∧ kd = 2 ∧ how = 0 ∧ r = low8 ev ∧ A' = A) ∨
  ((∀ x ∈ ls, ¬ off x) ∧ kd = 3 ∧ how = 3 ∧ A' = A) ∨
  ((∀ x ∈ ls, ¬ off x) ∧ kd ≠ 2 ∧ kd ≠ 3 ∧ how = 0 ∧ r = 0 ∧ Done N True (s + 30729) base (puts ixn [] ls) A')

set_option maxHeartbeats 1000000 in
theorem plays_c1 (h : StL W sb b T 608 A [] false) (c : Calm N True A s f) (hc : Clean 0 12304 base f) (lv : LsAt W Y vv ls) (hlen : ls.length < 4611686018427387904) (bl : Box W lb vv) (bs1 : Box W bs (ptr sb)) (bx : Box W xb (.int .i64 0))
    (oe : W.heap[eb]? = some (.cells #[.int .i64 kd, .int .i64 ei, .int .u64 ev] 31)) (t1 : ¬ tfoot sb b T lb) (t2 : ¬ tfoot sb b T bs) (t3 : ∀ k, Y k → ¬ tfoot sb b T k) (t4 : ¬ tfoot sb b T eb) (t5 : ¬ tfoot sb b T xb) (hs : s + 30729 < 4294967296) :
    Calls Try.prog 32 #[ptr bs, ptr lb, ptr eb, ptr xb] W fun e w' => ∃ (h : How) (T' : Tay) (A' : Ab) (r : Int), h.ended e ∧ (h = .well ∨ ∃ y, h = .bad 9 y) ∧ PlOut W sb b xb T T' A' r w' ∧ Four ls kd ev N s base A A' h.told r := by
  have D := t_do (R := PlR ls kd ev) h c hc (g := 33) (fi := #[]) (ca := #[ptr lb, ptr bs, ptr eb]) (fun w2 f2 => acts_of (fun _ _ => by kernel_rfl) (plays_c11 (h.still f2) c.dead (lv.kept f2 (fun _ _ x => x)) hlen (bl.kept f2 (fun x => x)) (bs1.kept f2 (fun x => x)) (f2.obj oe (fun x => x)) t1 t2 t3 t4)) hs
  have bc := bs1.c
  have e3 := mf
  have HD := hide D; have HBX := hide bx; have H5 := hide t5
  clear D h c hc lv bl bs1 bx oe t1 t2 t3 t4 t5
  go_enter Try.func32, Try.ntmps32
  go_wp2_with fail
  refine (unhide HD).mono ?_
  clear HD bc
  rintro e w1 (⟨P', r, rfl, T', A', o, d⟩ | ⟨_, _, _, _, _, _, hn, _⟩ | ⟨i, P', r, rfl, T', o⟩ | ⟨y, P', r, rfl, T', o⟩)
  · have b1 := (unhide HBX).kept o.fr (unhide H5)
    have xc := b1.c; have xz := b1.z
    have n1 := o.other (unhide HBX).lt (unhide H5)
    have out : PlOut W sb b xb T T' A' 0 (w1.setCell ⟨xb, 0, none⟩ (.int .i64 0)) :=
      ⟨o.st.kept ((Fr.refl (fun k => k = xb) w1).setCell (.inl rfl) _) (fun k hk e => n1 (e ▸ hk)), (o.fr.mono (G := fun k => tfoot sb b T k ∨ k = xb) (fun k hk => .inl (.inl hk))).setCell (.inl (.inr rfl)) _, o.sub, b1.set _⟩
    have fo : Four ls kd ev N s base A A' 0 0 := by
      rcases r with ⟨_, e⟩ | ⟨h1, rfl, ⟨_, e⟩ | ⟨_, e⟩ | ⟨h2, h3, _⟩⟩
      · injection e with e; cases e
      · injection e with e; cases e
      · injection e with e; cases e
      · exact .inr (.inr (.inr ⟨h1, h2, h3, rfl, rfl, d⟩))
    have HOU := hide (And.intro out fo)
    clear out fo b1 n1 o d r HBX H5
    go_wp2
    go_end0
    exact ⟨.well, T', A', 0, rfl, .inl rfl, (unhide HOU).1, (unhide HOU).2⟩
  · exact absurd trivial hn
  · have b1 := (unhide HBX).kept o.fr (unhide H5)
    have xc := b1.c; have xz := b1.z
    have n1 := o.other (unhide HBX).lt (unhide H5)
    have out : PlOut W sb b xb T T' A i (w1.setCell ⟨xb, 0, none⟩ (.int .i64 i)) :=
      ⟨o.st.kept ((Fr.refl (fun k => k = xb) w1).setCell (.inl rfl) _) (fun k hk e => n1 (e ▸ hk)), (o.fr.mono (G := fun k => tfoot sb b T k ∨ k = xb) (fun k hk => .inl (.inl hk))).setCell (.inl (.inr rfl)) _, o.sub, b1.set _⟩
    have fo : Four ls kd ev N s base A A 0 i := by
      rcases r with ⟨h1, e⟩ | ⟨h1, _, ⟨h2, e⟩ | ⟨_, e⟩ | ⟨_, _, e⟩⟩
      · have : i = 1 := by injection e with e; injection e with e; injection e with _ e; injection e
        exact .inl ⟨h1, rfl, this, rfl⟩
      · have : i = low8 ev := by injection e with e; injection e with e; injection e with _ e; injection e
        exact .inr (.inl ⟨h1, h2, rfl, this, rfl⟩)
      · have : 36 = 9 := by injection e with e; injection e with e; injection e
        exact absurd this (by decide)
      · injection e with e; cases e
    have HOU := hide (And.intro out fo)
    clear out fo b1 n1 o r HBX H5
    go_wp2
    go_end0
    exact ⟨.well, T', A, i, rfl, .inl rfl, (unhide HOU).1, (unhide HOU).2⟩
  · have b1 := (unhide HBX).kept o.fr (unhide H5)
    have out : PlOut W sb b xb T T' A 0 w1 := ⟨o.st, o.fr.mono (fun k hk => .inl (.inl hk)), o.sub, b1⟩
    have fo : Four ls kd ev N s base A A 3 0 := by
      rcases r with ⟨_, e⟩ | ⟨h1, _, ⟨_, e⟩ | ⟨h3, e⟩ | ⟨_, _, e⟩⟩
      · have : 9 = 36 := by injection e with e; injection e with e; injection e
        exact absurd this (by decide)
      · have : 9 = 36 := by injection e with e; injection e with e; injection e
        exact absurd this (by decide)
      · exact .inr (.inr (.inl ⟨h1, h3, rfl, rfl⟩))
      · injection e with e; cases e
    exact ⟨rfl, .bad 9 y, T', A, 0, How.ended_one _ _, .inr ⟨y, rfl⟩, out, fo⟩

theorem plays_told (h : StL W sb b T 608 A [] false) (c : Calm N True A s f) (hc : Clean 0 12304 base f) (lv : LsAt W Y vv ls) (hlen : ls.length < 4611686018427387904) (bl : Box W lb vv) (bs1 : Box W bs (ptr sb)) (bx : Box W xb (.int .i64 0))
    (oe : W.heap[eb]? = some (.cells #[.int .i64 kd, .int .i64 ei, .int .u64 ev] 31)) (t1 : ¬ tfoot sb b T lb) (t2 : ¬ tfoot sb b T bs) (t3 : ∀ k, Y k → ¬ tfoot sb b T k) (t4 : ¬ tfoot sb b T eb) (t5 : ¬ tfoot sb b T xb) (hs : s + 30729 < 4294967296) :
    Calls Try.prog 25 #[.int .i64 0, .func (.func 32) #[] #[ptr bs, ptr lb, ptr eb, ptr xb]] W fun e w' => ∃ (how : Int) (T' : Tay) (A' : Ab) (r : Int), e = .returned (.int .i64 how) ∧ PlOut W sb b xb T T' A' r w' ∧ Four ls kd ev N s base A A' how r := by
  have fb := boxed_fr W 0
  have zb := boxed_size W 0
  have lt := h.lt
  have xlt := bx.lt
  refine (Told_fr (F := fun k => tfoot sb b T k ∨ k = xb) 0 32 (fun _ _ => by kernel_rfl) #[] #[ptr bs, ptr lb, ptr eb, ptr xb] W (fun h w' => ∃ T' A' r, PlOut W sb b xb T T' A' r w' ∧ Four ls kd ev N s base A A' h.told r) (fun k hk => hk.elim (lt k) (fun x => by rw [x]; exact xlt)) ((plays_c1 (h.still fb) c hc (lv.kept fb (fun _ _ x => x)) hlen (bl.kept fb (fun x => x)) (bs1.kept fb (fun x => x)) (bx.kept fb (fun x => x)) (fb.obj oe (fun x => x)) t1 t2 t3 t4 t5 hs).mono ?_)).mono ?_
  · rintro e w' ⟨k, T', A', r, h1, h2, out, fo⟩
    refine ⟨k, h1, h2.imp id .inr, out.fr, fun w2 f2 => ⟨T', A', r, ?_, fo⟩⟩
    have out2 : PlOut W sb b xb T T' A' r w' := ⟨out.st, (fb.mono (G := fun k => tfoot sb b T k ∨ k = xb) (fun _ x => x.elim)).trans out.fr, fun k hk => (out.sub k hk).imp id (fun x => by rw [zb] at x; omega), out.bx⟩
    refine out2.turn f2 (fun k hk => ⟨fun ht => ?_, by omega, by omega⟩)
    rcases out.sub k ht with e | e
    · have := lt k e; omega
    · rw [zb] at e; omega
  · rintro e w' ⟨k, rfl, T', A', r, out, fo⟩
    exact ⟨_, T', A', r, rfl, out, fo⟩
end
end Go.Proofs.Ytamghkabclbkgaa
