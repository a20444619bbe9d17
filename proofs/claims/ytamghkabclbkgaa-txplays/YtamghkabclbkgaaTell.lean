/- Told about a closure that works on a device. -/
import Derived.Test.YtamghkabclbkgaaAt
namespace Go.Proofs.Ytamghkabclbkgaa
open Go.RowKit

section
variable {V : World} {b : Nat} {L : Lay} {A A' : Ab} {G G' : Nat → Option Obj} {g : Nat} {first cap : Array Value} {word : Int}

theorem tell_start (d : DevL V b L A) (hG : ∀ k o, G k = some o → V.heap[k]? = some o ∧ ¬ foot b L k) : At (boxed V word) b (foot b L) G (boxed V word) A :=
  At.start (d.keptF (boxed_fr V word)) G (fun k o e => ⟨((boxed_fr V word).block k (Array.getElem?_eq_some_iff.1 (hG k o e).1).1 (fun h => h)).trans (hG k o e).1, (hG k o e).2⟩)

/-- What a world holds behind the call, but for the two boxes. -/
def Has (V : World) (b : Nat) (L : Lay) (P : Ab → (Nat → Option Obj) → Prop) (w' : World) : Prop :=
  ∃ A' G', P A' G' ∧ (∃ L', DevL w' b L' A' ∧ ∀ k, foot b L' k → foot b L k ∨ V.heap.size + 2 ≤ k) ∧ ∀ k o, G' k = some o → w'.heap[k]? = some o ∧ ¬ foot b L k ∧ k < V.heap.size

theorem tell_stays (d : DevL V b L A) (P : Ab → (Nat → Option Obj) → Prop) (w1 w' : World) (h : Has V b L P w1) (hs : V.heap.size + 2 ≤ w1.heap.size) (hf : Fr (fun k => k = V.heap.size + 1) w1 w') : Has V b L P w' := by
  obtain ⟨A', G', hP, ⟨L', d', hL⟩, gs⟩ := h
  refine ⟨A', G', hP, ⟨L', d'.kept hf (fun k hk e => ?_), hL⟩, fun k o e => ?_⟩
  · rcases hL k hk with x | x
    · have := d.lt k x; omega
    · omega
  · obtain ⟨g1, g2, g3⟩ := gs k o e
    exact ⟨(hf.block k (by omega) (by omega)).trans g1, g2, g3⟩

/-- What the closure is asked for. -/
def Runs (V : World) (b : Nat) (L : Lay) (P : Ab → (Nat → Option Obj) → Prop) (word : Int) (w' : World) : Prop :=
  ∃ A' G', P A' G' ∧ At (boxed V word) b (foot b L) G' w' A'
/-- What Told gives. -/
def Gives (V : World) (b : Nat) (L : Lay) (P : Ab → (Nat → Option Obj) → Prop) (w' : World) : Prop :=
  ∃ A' G', P A' G' ∧ At V b (foot b L) G' w' A'

theorem runs_has (P : Ab → (Nat → Option Obj) → Prop) (hG : ∀ k o, G k = some o → V.heap[k]? = some o ∧ ¬ foot b L k) (hP : ∀ A' G', P A' G' → ∀ k, (G' k).isSome = true → (G k).isSome = true) {w' : World} (h : Runs V b L P word w') :
    Has V b L P w' ∧ Fr (fun k => foot b L k ∨ (G k).isSome = true) (boxed V word) w' := by
  obtain ⟨A', G', p, a⟩ := h
  have hlt : ∀ k, (G k).isSome = true → k < V.heap.size := fun k hk => by
    obtain ⟨o, ho⟩ := Option.isSome_iff_exists.1 hk
    exact (Array.getElem?_eq_some_iff.1 (hG k o ho).1).1
  refine ⟨⟨A', G', p, ?_, fun k o e => ?_⟩, a.fr.mono (fun k hk => .inl (hk.elim .inl (fun x => .inr (hP A' G' p k x))))⟩
  · obtain ⟨L', d', hL⟩ := a.ex
    rw [boxed_size] at hL
    exact ⟨L', d', hL⟩
  · obtain ⟨g1, g2, _⟩ := a.gs k o e
    exact ⟨g1, g2, hlt k (hP A' G' p k (by rw [e]; rfl))⟩

theorem has_gives (P : Ab → (Nat → Option Obj) → Prop) (_hG : ∀ k o, G k = some o → V.heap[k]? = some o ∧ ¬ foot b L k) (hD : ∀ A' G', P A' G' → ∀ k, (G k).isSome = true → (G' k).isSome = true) {w' : World} (h : Has V b L P w')
    (hf : Fr (fun k => foot b L k ∨ (G k).isSome = true) V w') : Gives V b L P w' := by
  obtain ⟨A', G', p, ⟨L', d', hL⟩, gs⟩ := h
  exact ⟨A', G', p, ⟨⟨L', d', fun k hk => (hL k hk).elim .inl (fun x => .inr (by omega))⟩, hf.mono (fun k hk => .inl (hk.elim .inl (fun x => .inr (hD A' G' p k x)))), gs⟩⟩

theorem tell_lt (d : DevL V b L A) (hG : ∀ k o, G k = some o → V.heap[k]? = some o ∧ ¬ foot b L k) : ∀ k, (foot b L k ∨ (G k).isSome = true) → k < V.heap.size := fun k hk => by
  rcases hk with hk | hk
  · exact d.lt k hk
  · obtain ⟨o, ho⟩ := Option.isSome_iff_exists.1 hk
    exact (Array.getElem?_eq_some_iff.1 (hG k o ho).1).1

theorem tell_ok (hg : Enters g) (d : DevL V b L A) (P : Ab → (Nat → Option Obj) → Prop) (hG : ∀ k o, G k = some o → V.heap[k]? = some o ∧ ¬ foot b L k) (hP : ∀ A' G', P A' G' → ∀ k, (G' k).isSome = (G k).isSome)
    (hf : At (boxed V word) b (foot b L) G (boxed V word) A → Calls Try.prog g (first ++ cap) (boxed V word) fun e w' => (∃ v, e = .returned v) ∧ Runs V b L P word w') :
    Calls Try.prog 25 #[.int .i64 word, .func (.func g) first cap] V fun e w' => e = .returned (.int .i64 0) ∧ Gives V b L P w' := by
  refine (told_ok hg (F := fun k => foot b L k ∨ (G k).isSome = true) (R := Has V b L P) (tell_lt d hG) (tell_stays d P) ((hf (tell_start d hG)).mono ?_)).mono ?_
  · rintro e w' ⟨he, hr⟩
    obtain ⟨h1, h2⟩ := runs_has P hG (fun A' G' p k hk => by rw [← hP A' G' p]; exact hk) hr
    exact ⟨he, h1, h2⟩
  · rintro e w' ⟨he, hr, hfr⟩
    exact ⟨he, has_gives P hG (fun A' G' p k hk => by rw [hP A' G' p]; exact hk) hr hfr⟩

theorem tell_lost (hg : Enters g) (d : DevL V b L A) (P : Ab → (Nat → Option Obj) → Prop) (hG : ∀ k o, G k = some o → V.heap[k]? = some o ∧ ¬ foot b L k) (hP : ∀ A' G', P A' G' → ∀ k, (G' k).isSome = (G k).isSome)
    (hf : At (boxed V word) b (foot b L) G (boxed V word) A → Calls Try.prog g (first ++ cap) (boxed V word) fun e w' => e = .panicked lost ∧ Runs V b L P word w') :
    Calls Try.prog 25 #[.int .i64 word, .func (.func g) first cap] V fun e w' => e = .returned (.int .i64 1) ∧ Gives V b L P w' := by
  refine (told_lst hg (F := fun k => foot b L k ∨ (G k).isSome = true) (R := Has V b L P) (tell_lt d hG) (tell_stays d P) ((hf (tell_start d hG)).mono ?_)).mono ?_
  · rintro e w' ⟨he, hr⟩
    obtain ⟨h1, h2⟩ := runs_has P hG (fun A' G' p k hk => by rw [← hP A' G' p]; exact hk) hr
    exact ⟨he, h1, h2⟩
  · rintro e w' ⟨he, hr, hfr⟩
    exact ⟨he, has_gives P hG (fun A' G' p k hk => by rw [hP A' G' p]; exact hk) hr hfr⟩

theorem tell_wrong (hg : Enters g) (d : DevL V b L A) (P : Ab → (Nat → Option Obj) → Prop) (hG : ∀ k o, G k = some o → V.heap[k]? = some o ∧ ¬ foot b L k) (hP : ∀ A' G', P A' G' → ∀ k, (G' k).isSome = (G k).isSome)
    (hf : At (boxed V word) b (foot b L) G (boxed V word) A → Calls Try.prog g (first ++ cap) (boxed V word) fun e w' => e = .panicked (wrong word) ∧ Runs V b L P word w') :
    Calls Try.prog 25 #[.int .i64 word, .func (.func g) first cap] V fun e w' => e = .returned (.int .i64 2) ∧ Gives V b L P w' := by
  refine (told_wrg hg (F := fun k => foot b L k ∨ (G k).isSome = true) (R := Has V b L P) (tell_lt d hG) (tell_stays d P) ((hf (tell_start d hG)).mono ?_)).mono ?_
  · rintro e w' ⟨he, hr⟩
    obtain ⟨h1, h2⟩ := runs_has P hG (fun A' G' p k hk => by rw [← hP A' G' p]; exact hk) hr
    exact ⟨he, h1, h2⟩
  · rintro e w' ⟨he, hr, hfr⟩
    exact ⟨he, has_gives P hG (fun A' G' p k hk => by rw [hP A' G' p]; exact hk) hr hfr⟩
end
end Go.Proofs.Ytamghkabclbkgaa
