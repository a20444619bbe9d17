/- Do about a change that also turns variables of whoever calls it. -/
import Derived.Test.YtdgobaknbjlahaaGreatDoorLw
namespace Go.Proofs.YtdgobaknbjlahaaGreatDoor
open Go.RowKit

/-- From w0 up to w nothing has turned but the store and the blocks X. -/
structure OnxX (X : Nat → Prop) (w0 : World) (sb b : Nat) (T0 : Tay) (w : World) (T : Tay) (n : Nat) (A : Ab) (P : List (Int × Int)) (dd : Bool) : Prop where
  st : StL w sb b T n A P dd
  fr : Fr (fun k => tfoot sb b T0 k ∨ X k) w0 w
  sub : ∀ k, tfoot sb b T k → tfoot sb b T0 k ∨ w0.heap.size ≤ k

section
variable {X : Nat → Prop} {w w' w0 : World} {sb b : Nat} {T T0 T' : Tay} {n N : Nat} {A A' : Ab} {P P' : List (Int × Int)} {dd dd' : Bool} {free : Prop} {s : Int} {f base : Nat → Int}

theorem OnxX.of (h : Onx w0 sb b T0 w T n A P dd) : OnxX X w0 sb b T0 w T n A P dd := ⟨h.st, h.fr.mono (fun _ hk => .inl (.inl hk)), h.sub⟩
theorem OnxX.trans {w1 : World} {T1 : Tay} {A1 : Ab} {P1 : List (Int × Int)} {dd1 : Bool} (h : OnxX X w0 sb b T0 w T n A P dd) (k : Onx w sb b T w1 T1 n A1 P1 dd1) : OnxX X w0 sb b T0 w1 T1 n A1 P1 dd1 :=
  ⟨k.st, h.fr.trans' k.fr (fun j hj => (h.sub j hj).imp .inl id), fun j hj => (k.sub j hj).elim (h.sub j) (fun x => .inr (Nat.le_trans h.fr.size x))⟩
theorem OnxX.after {w1 : World} (h : OnxX X w1 sb b T0 w T n A P dd) (hf : Still w0 w1) : OnxX X w0 sb b T0 w T n A P dd :=
  ⟨h.st, (hf.mono (G := fun k => tfoot sb b T0 k ∨ X k) (fun _ hk => hk.elim)).trans h.fr, fun k hk => (h.sub k hk).imp id (fun x => Nat.le_trans hf.size x)⟩
theorem OnxX.quiet (h : OnxX X w0 sb b T0 w T n A P dd) (hf : Still w w') : OnxX X w0 sb b T0 w' T n A P dd := ⟨h.st.still hf, h.fr.trans' hf (fun _ hk => hk.elim), h.sub⟩
/-- One of the variables turns. -/
theorem OnxX.var (h : OnxX X w0 sb b T0 w T n A P dd) {F : Nat → Prop} (hf : Fr F w w') (h1 : ∀ k, F k → X k) (h2 : ∀ k, F k → ¬ tfoot sb b T k) : OnxX X w0 sb b T0 w' T n A P dd :=
  ⟨h.st.kept hf (fun k hk hF => h2 k hF hk), h.fr.trans' hf (fun k hk => .inl (.inr (h1 k hk))), h.sub⟩
theorem OnxX.turn (h : OnxX X w0 sb b T0 w T n A P dd) {F : Nat → Prop} (hf : Fr F w w') (h1 : ∀ k, F k → ¬ tfoot sb b T k) (h2 : ∀ k, F k → w0.heap.size ≤ k) : OnxX X w0 sb b T0 w' T n A P dd :=
  ⟨h.st.kept hf (fun k hk hF => h1 k hF hk), h.fr.trans' hf (fun k hk => .inr (h2 k hk)), h.sub⟩
theorem OnxX.other (h : OnxX X w0 sb b T0 w T n A P dd) {k : Nat} (hk : k < w0.heap.size) (hn : ¬ tfoot sb b T0 k) : ¬ tfoot sb b T k := fun hf => by
  rcases h.sub k hf with e | e
  · exact hn e
  · omega
theorem OnxX.boxed {w2 w3 : World} (h : StL w sb b T n A P dd) (f0 : Still w0 w) (o : OnxX X (w.alloc box) sb b T w2 T' n A' P' dd') (hf : Fr (fun k => k = w.heap.size) w2 w3) : OnxX X w0 sb b T w3 T' n A' P' dd' := by
  have o1 := o.after (f0.alloc box)
  refine o1.turn hf (fun k hk ht => ?_) (fun k hk => by have := f0.size; omega)
  rcases o.sub k ht with e | e
  · have := h.lt k e; omega
  · have : (w.alloc box).heap.size = w.heap.size + 1 := by simp
    omega

/-- A change that may put, and turn X; it ends well or by an error. -/
def ChangeX (X : Nat → Prop) (w : World) (sb b : Nat) (T : Tay) (n : Nat) (A : Ab) (fv : Value) (R : How → List (Int × Int) → World → Prop) : Prop :=
  ∀ w1, Still w w1 → Acts fv w1 fun h w2 => (h = .well ∨ ∃ i, h = .errno i) ∧ ∃ T' P', OnxX X w1 sb b T w2 T' n A P' false ∧ R h P' w2

/-- What is said of X stays while X does. -/
def Stays (X : Nat → Prop) (R : How → List (Int × Int) → World → Prop) : Prop := ∀ (h : How) (P : List (Int × Int)) (w w' : World) (F : Nat → Prop), R h P w → Fr F w w' → (∀ k, X k → ¬ F k) → R h P w'

/-- How Do ends. -/
def DidX (X : Nat → Prop) (w : World) (sb b : Nat) (T : Tay) (n N : Nat) (free : Prop) (A : Ab) (s : Int) (base : Nat → Int) (R : How → List (Int × Int) → World → Prop) (e : Ending) (w' : World) : Prop :=
  (∃ P', R .well P' w' ∧ e = .returned (.int .i64 0) ∧ ∃ T' A', OnxX X w sb b T w' T' n A' [] false ∧ Done N free (s + 30729) base P' A') ∨
  (∃ P', R .well P' w' ∧ e = .returned (.int .i64 50) ∧ ∃ T' A', OnxX X w sb b T w' T' n A' P' true ∧ Gone N free (s + 30729) base P' A') ∨
  (∃ i P', R (.errno i) P' w' ∧ e = .returned (.int .i64 i) ∧ ∃ T', OnxX X w sb b T w' T' n A [] false)

set_option maxHeartbeats 2000000 in
theorem t_doX {g : Nat} {fi ca : Array Value} {R : How → List (Int × Int) → World → Prop} (h : StL w sb b T n A P false) (c : Calm N free A s f) (hc : Clean 0 12304 base f) (hX : ∀ k, X k → k < w.heap.size ∧ ¬ tfoot sb b T k) (hR : Stays X R)
    (hf : ChangeX X w sb b T n A (.func (.func g) fi ca) R) (hs : s + 30729 < 4294967296) :
    Calls Tryz.prog 7 #[ptr sb, .func (.func g) fi ca] w (DidX X w sb b T n N free A s base R) := by
  obtain ⟨W, hW⟩ : ∃ W, w.alloc (.cells #[.func (.func g) fi ca, .func (.func 25) #[ptr sb] #[]] 1) = W := ⟨_, rfl⟩
  have fW : Still w W := hW ▸ (Fr.refl _ w).alloc _
  have zW : W.heap.size = w.heap.size + 1 := by rw [← hW]; simp
  have hb : W.heap[w.heap.size]? = some (.cells #[.func (.func g) fi ca, .func (.func 25) #[ptr sb] #[]] 1) := hW ▸ heap_alloc_new w _
  have hWs := h.still fW
  have nT : ¬ (tfoot sb b T w.heap.size ∨ X w.heap.size) := fun e => by
    rcases e with e | e
    · have := h.lt _ e; omega
    · have := (hX _ e).1; omega
  have xl : ∀ k, X k → k < W.heap.size := fun k hk => by have := (hX k hk).1; omega
  have E := each_two (lb := w.heap.size) (f := .func (.func g) fi ca) (g := .func (.func 25) #[ptr sb] #[]) (w := W)
    (I1 := fun w' => ∃ T' P', OnxX X W sb b T w' T' n A P' false ∧ R .well P' w')
    (I2 := fun w' => ∃ P', R .well P' w' ∧ ∃ T' A', OnxX X W sb b T w' T' n A' [] false ∧ Done N free (s + 30729) base P' A')
    (S := fun h w' => (∃ i P', h = .errno i ∧ R (.errno i) P' w' ∧ ∃ T', OnxX X W sb b T w' T' n A P' false) ∨ (∃ P', h = .lost ∧ R .well P' w' ∧ ∃ T' A', OnxX X W sb b T w' T' n A' P' true ∧ Gone N free (s + 30729) base P' A'))
    (cell_of_obj hb 0)
    (try_fr (F := fun k => tfoot sb b T k ∨ X k) (fun k hk => hk.elim (hWs.lt k) (xl k)) ((hf (W.alloc box) (fW.alloc box)).mono (by
      rintro k w2 ⟨hk, T', P', o, r⟩
      refine ⟨o.fr, fun w3 f3 => ?_⟩
      have o3 := OnxX.boxed hWs (Fr.refl _ W) o f3
      have r3 : R k P' w3 := hR _ _ _ _ _ r f3 (fun j hj e => by have := xl j hj; omega)
      rcases hk with rfl | ⟨i, rfl⟩
      · exact .inl ⟨rfl, (o3.fr.cell' (cell_of_obj hb 1) nT), T', P', o3, r3⟩
      · exact .inr ⟨rfl, .inl ⟨i, P', rfl, r3, T', o3⟩⟩)))
    (by
      rintro w1 ⟨T1, P1, o1, r1⟩
      have few := o1.st.few
      have nX : ∀ k, X k → ¬ tfoot sb b T1 k := fun k hk => o1.other (xl k hk) (hX k hk).2
      have xl1 : ∀ k, X k → k < w1.heap.size := fun k hk => Nat.lt_of_lt_of_le (xl k hk) o1.fr.size
      refine try_store o1.st (acts_of (fun _ _ => by kernel_rfl) ((t_commit (o1.st.still ((Fr.refl _ w1).alloc box)) c hc (by omega)).mono ?_))
      rintro e w2 (⟨rfl, T', A', o, d⟩ | ⟨rfl, T', A', o, d⟩)
      · refine ⟨.well, rfl, o.fr, fun w3 f3 => .inl ⟨rfl, P1, ?_, T', A', o1.trans (Onx.boxed o1.st (Fr.refl _ w1) o f3), d.more (by omega)⟩⟩
        exact hR _ _ _ _ _ r1 (Onx.boxed o1.st (Fr.refl _ w1) o f3).fr nX
      · refine ⟨.lost, How.ended_one _ _, o.fr, fun w3 f3 => .inr ⟨rfl, .inr ⟨P1, rfl, ?_, T', A', o1.trans (Onx.boxed o1.st (Fr.refl _ w1) o f3), d.more (by omega)⟩⟩⟩
        exact hR _ _ _ _ _ r1 (Onx.boxed o1.st (Fr.refl _ w1) o f3).fr nX)
  have c5 := h.c5
  have h1 := mf
  have HE := hide E; have HW := hide hW; have HFW := hide fW; have HXL := hide xl; have HHX := hide hX; have HR := @hide _ hR
  clear E hW fW zW hb hWs nT h c hc hf xl hX hR
  unfold DidX
  go_enter Tryz.func7, Tryz.ntmps7
  go_wp2_with fail
  rw [unhide HW]
  refine (unhide HE).mono ?_
  clear HE
  rintro e w2 ⟨k, ⟨rfl, P', r, x⟩ | ⟨h, rfl, x⟩⟩
  · have K := settle_nil (sb := sb) w2
    have HX := hide x; have HRR := hide r
    clear x r
    go_wp2_with fail
    refine K.mono ?_
    rintro e w3 ⟨rfl, hh⟩
    replace hh := hh.symm
    subst hh
    clear K
    go_wp2
    go_ret
    obtain ⟨T', A', o, d⟩ := unhide HX
    exact .inl ⟨P', unhide HRR, rfl, T', A', o.after (unhide HFW), d⟩
  · rcases x with ⟨i, P', rfl, r, T', o⟩ | ⟨P', rfl, r, T', A', o, d⟩
    · have K := hide (settle_errno o.st i)
      have HX := hide (And.intro r o)
      clear r o
      simp only [How.v]
      go_wp2_with fail
      refine (unhide K).mono ?_
      rintro e w3 ⟨rfl, T3, -, o3⟩
      have HO3 := hide o3
      clear K o3
      go_wp2
      go_ret
      obtain ⟨r, o⟩ := unhide HX
      have nX : ∀ k, X k → ¬ tfoot sb b T' k := fun k hk => o.other (unhide HXL k hk) (unhide HHX k hk).2
      exact .inr (.inr ⟨i, P', unhide HR _ _ _ _ _ r (unhide HO3).fr nX, rfl, T3, (o.trans (unhide HO3)).after (unhide HFW)⟩)
    · have K := hide (settle_lost o.st)
      have HX := hide (And.intro r (And.intro o d))
      clear r o d
      simp only [How.v]
      go_wp2_with fail
      refine (unhide K).mono ?_
      rintro e w3 ⟨rfl, T3, -, o3⟩
      have HO3 := hide o3
      clear K o3
      go_wp2
      go_ret
      obtain ⟨r, o, d⟩ := unhide HX
      have nX : ∀ k, X k → ¬ tfoot sb b T' k := fun k hk => o.other (unhide HXL k hk) (unhide HHX k hk).2
      exact .inr (.inl ⟨P', unhide HR _ _ _ _ _ r (unhide HO3).fr nX, rfl, T3, A', (o.trans (unhide HO3)).after (unhide HFW), d⟩)
end
end Go.Proofs.YtdgobaknbjlahaaGreatDoor
