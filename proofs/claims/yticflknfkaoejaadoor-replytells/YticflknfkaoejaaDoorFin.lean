/- What a frame needs: the bounds of arguments, the table of trailing noughts, a wrap that hands the world's shape on beside what is laid. -/
import Derived.Test.YticflknfkaoejaaDoorRm
import Derived.Test.YticflknfkaoejaaDoorIn
import Derived.Lib.TrailingZeros
import Derived.Handed
import Derived.HandedShaped
import Derived.Shelf.Vars
namespace Go.Proofs.YticflknfkaoejaaDoor
open Go.RowKit

/-- The table of trailing noughts. -/
def tab64 : List Int := [0, 1, 56, 2, 57, 49, 28, 3, 61, 58, 42, 50, 38, 29, 17, 4, 62, 47, 59, 36, 45, 43, 51, 22, 53, 39, 33, 30, 24, 18, 12, 5, 63, 55, 48, 27, 60, 41, 37, 16, 46, 35, 44, 21, 52, 32, 23, 11, 54, 26, 40, 15, 34, 20, 31, 10, 25, 14, 19, 9, 13, 8, 7, 6]

/-- Where a walk serves every world of the right shape in which X holds, the row's form holds. -/
theorem lifts {H : Type} {enc : TypeId × Value → H} {C : Checked} {os : Os} {f : FuncId} {fn : Func} {s : ChangeSpec} {conds : List PathCond} {again : Bool} {X : World → Array Value → Prop}
    (hX : ∀ (a b : World) (args : Array Value), a.heap = b.heap → X a args → X b args) (own : ownKnob C.prog.godebug = none) (st : os.Started) (hin : C.prog.inits.idxOf? f = none) (hf : C.prog.funcs[f]? = some fn)
    (wit : ∃ (w : World) (tape : Tape) (i : Input), w.os = os ∧ (w.forCall tape i).Shaped C.prog ∧ i.vars = [] ∧ Input.okWide C.prog (w.forCall tape i) .any w.heap.size f i ∧
      ((s.pre enc C.prog fn conds false (w.forCall tape i).memory i.args ∧ X (w.forCall tape i).memory i.args) ∧ sizedMet enc C.prog fn (OpenSpec.ofChange s) false (w.forCall tape i).memory i.args) ∧ Assume.holds {} C.prog (lone (Frame.enter C.prog f i.args .normal) [] (w.forCall tape i)))
    (walk : ∀ (W : World) (base : Nat) (args : Array Value) (ds gs : List (DataW H)) (bf : List MemPlace),
      (∀ (j : Nat) t v, fn.params[j]? = some t → args[j]? = some v → Value.okWide C.prog W .any base t v) → DataW.Whole enc C.prog fn.params.toList s.vars false W args.toList ds gs bf →
      (DataW.weightsEach C.prog (fn.params.toList ++ s.plain.varTypes C.prog) (ds ++ gs)).all (· ≤ reachBytes) = true → X W args → W.ShapedOpen C.prog →
      Calls C.prog f args W fun e W' => ∃ v, e = .returned v ∧ s.post enc C.prog fn false true false again W args v W') :
    ReturnsInHanded {} C os f .any (fun w args => (s.pre enc C.prog fn conds false w args ∧ X w args) ∧ sizedMet enc C.prog fn (OpenSpec.ofChange s) false w args) (s.post enc C.prog fn false true false again) := by
  refine returnsInHanded_of_calls own st hin wit fun w tape i _ shape _ ok pre _ => ?_
  rcases ok with ⟨_, _, _, g, hg, _, _, _, _, vals⟩
  cases hg.symm.trans hf
  rcases pre with ⟨⟨⟨ds, gs, bf, whole, _⟩, x⟩, sized⟩
  have whole2 := DataW.Whole.of_heap (w' := w.forCall tape i) (by rfl) whole
  refine Calls.mono (walk _ w.heap.size i.args ds gs bf vals whole2 (sized.weights whole) (hX _ _ _ (by rfl) x) shape) ?_
  rintro e W' ⟨v, rfl, post⟩
  exact ChangeSpec.post_blind post
end Go.Proofs.YticflknfkaoejaaDoor
