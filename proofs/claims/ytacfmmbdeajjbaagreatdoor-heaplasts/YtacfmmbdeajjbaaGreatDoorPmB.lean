/- HeapPlays: the closure, and Do. -/
import Derived.Test.YtacfmmbdeajjbaaGreatDoorPmA
import Derived.Test.YtacfmmbdeajjbaaGreatDoorSwD
import Derived.Test.YtacfmmbdeajjbaaGreatDoorFuC
namespace Go.Proofs.YtacfmmbdeajjbaaGreatDoor
open Go.RowKit

/-- What the closure of HeapPlays finds. -/
structure PlW (w : World) (hb sb b : Nat) (T : Tay) (A : Ab) (P : List (Int × Int)) (bo bh ba bs bi bl : Nat) (kd x v : Int) (i : Nat) (va : Value) (al : Option Addr) (len cap : Nat) : Prop where
  h : Hp w hb sb b T A P
  s : HpS (says P A)
  c0 : w.cell? ⟨bo, 0, none⟩ = some (.int .i64 kd)
  c1 : w.cell? ⟨bo, 1, none⟩ = some (.int .i64 x)
  c2 : w.cell? ⟨bo, 2, none⟩ = some (.int .u64 v)
  ch : w.cell? ⟨bh, 0, none⟩ = some (ptr hb)
  cs : w.cell? ⟨bs, 0, none⟩ = some (ptr sb)
  ci : w.cell? ⟨bi, 0, none⟩ = some (.int .i64 i)
  cl : w.cell? ⟨bl, 0, none⟩ = some (.slice al len cap)
  ca : Box w ba va
  na : ∀ k, k = bo ∨ k = bh ∨ k = bs ∨ k = bi ∨ k = bl ∨ k = ba → ¬ tfoot sb b T k
  ne : bo ≠ ba ∧ bh ≠ ba ∧ bs ≠ ba ∧ bi ≠ ba ∧ bl ≠ ba ∧ hb ≠ ba ∧ 0 ≠ ba

section
variable {w w' w0 : World} {hb sb b bo bh ba bs bi bl i : Nat} {T : Tay} {A : Ab} {P : List (Int × Int)} {kd x v : Int} {va : Value} {al : Option Addr} {len cap : Nat}

end

/-- What a change that ended well has done. -/
def PlDone (kd x v : Int) (ls : List (Nat × Nat)) (f g : Nat → Int) (at_ : Int) : Prop :=
  (kd = 0 ∧ ∃ u z : Nat, x = z ∧ 1 ≤ z ∧ z ≤ 512 ∧ at_ = 160 + u * 8 ∧ u ≤ 478 ∧ Lists (ask g) (ls ++ [(u, z)]) ∧ ∀ j, 2 ≤ j → j < 18 → g j = f j) ∨
  (kd = 1 ∧ ls = [] ∧ Lists (ask g) ls ∧ ∀ j, 2 ≤ j → j < 18 → g j = f j) ∨
  (kd = 1 ∧ ls ≠ [] ∧ Lists (ask g) (ls.eraseIdx (msk x 65535 % ls.length)) ∧ ∀ j, 2 ≤ j → j < 18 → g j = f j) ∨
  (kd = 2 ∧ ∃ (k : Nat) (y : Nat × Nat), ls[k]? = some y ∧ x = 160 + y.1 * 8 ∧ Lists (ask g) (ls.eraseIdx k) ∧ ∀ j, 2 ≤ j → j < 18 → g j = f j) ∨
  (kd = 3 ∧ ∃ k : Nat, k < 16 ∧ x = k ∧ Lists (ask g) ls ∧ ∀ j, j < 16 → g (2 + j) = if j = k then v else f (2 + j)) ∨
  (¬ kd = 0 ∧ ¬ kd = 1 ∧ ¬ kd = 2 ∧ ¬ kd = 3 ∧ ¬ kd = 4 ∧ Lists (ask g) ls ∧ ∀ j, 2 ≤ j → j < 18 → g j = f j)
/-- How a change may have failed. -/
def PlErr (kd x : Int) (ls : List (Nat × Nat)) (c : Int) : Prop :=
  (kd = 0 ∧ c = 1 ∧ (x < 1 ∨ 512 < x)) ∨ (kd = 0 ∧ c = 60 ∧ 1 ≤ x ∧ x ≤ 512 ∧ ls ≠ []) ∨
  (kd = 2 ∧ c = 1 ∧ ∀ y ∈ ls, x ≠ 160 + y.1 * 8) ∨ (kd = 3 ∧ c = 1 ∧ (x < 0 ∨ 15 < x)) ∨ (kd = 4 ∧ (c = 3 ∨ c = 60))

section
variable {w w' w0 : World} {X : Nat → Prop} {hb sb b bo bh ba bs bi bl i : Nat} {T : Tay} {A : Ab} {s : Int} {base : Nat → Int} {kd x v : Int} {va : Value} {al : Option Addr} {cap : Nat}

/-- How Do ends here. -/
def PlDid (w0 : World) (X : Nat → Prop) (w : World) (hb sb b : Nat) (T : Tay) (ba : Nat) (s : Int) (base : Nat → Int) (kd x v : Int) (ls : List (Nat × Nat)) (e : Ending) (w' : World) : Prop :=
  Fr (fun k => tfoot sb b T k ∨ k = ba) w w' ∧ ∃ (c at_ : Int) (T' : Tay) (A' : Ab) (base' : Nat → Int), e = .returned (.int .i64 c) ∧ Box w' ba (.int .i64 at_) ∧ HpC w0 X w' hb sb b T' A' 2048 True (s + 30729) base' ∧ HpS (rb base') ∧
    ((c = 0 ∧ PlDone kd x v ls (rb base) (rb base') at_) ∨ (base' = base ∧ ¬ c = 0 ∧ PlErr kd x ls c))

theorem pl_by (hc : HpC w0 X w hb sb b T A 2048 True s base) (hps : HpS (rb base)) (hX : X ba) (hn : hb ≠ ba) {g : Nat} {fi ca : Array Value} {Q : How → (Nat → Int) → Int → Prop} {ls : List (Nat × Nat)}
    (hf : ChangeX (fun k => k = ba) w sb b T 3984 A (.func (.func g) fi ca) (fun h P' w' => ∃ at_ : Int, Box w' ba (.int .i64 at_) ∧ Q h (says P' A) at_)) (hs : s + 30729 < 4294967296)
    (hw : ∀ g at_, Q .well g at_ → HpS g ∧ PlDone kd x v ls (rb base) g at_) (he : ∀ c g at_, Q (.errno c) g at_ → ¬ c = 0 ∧ PlErr kd x ls c) :
    Calls Tryz.prog 9 #[ptr sb, .func (.func g) fi ca] w (PlDid w0 X w hb sb b T ba s base kd x v ls) := by
  refine (hc.do_ (V := fun k => k = ba) (fun k hk => by rw [hk]; exact hX) (fun e => hn e) (by
    rintro h P w w' F ⟨a, bx, q⟩ hf hn
    exact ⟨a, bx.kept hf (hn _ rfl), q⟩) hf hs).mono ?_
  rintro e w' ⟨fr, ⟨P', T', A', ⟨a, bx, q⟩, rfl, hc'⟩ | ⟨c, P', T', ⟨a, bx, q⟩, rfl, hc'⟩⟩
  · rw [hc.says P'] at q
    obtain ⟨q1, q2⟩ := hw _ _ q
    exact ⟨fr, 0, a, T', A', _, rfl, bx, hc', q1, .inl ⟨rfl, q2⟩⟩
  · obtain ⟨q1, q2⟩ := he _ _ _ q
    exact ⟨fr, c, a, T', A, base, rfl, bx, hc'.slow (by omega), hps, .inr ⟨rfl, q1, q2⟩⟩

theorem Gave.lists {f g : Nat → Int} {ls : List (Nat × Nat)} {k : Nat} {y : Nat × Nat} (hps : HpS f) (l : Lists (ask f) ls) (hy : ls[k]? = some y) (gv : Gave f y.1 g) : Lists (ask g) (ls.eraseIdx k) := by
  rw [gv.ak]; exact l.drop hps.inv hy

end
end Go.Proofs.YtacfmmbdeajjbaaGreatDoor
