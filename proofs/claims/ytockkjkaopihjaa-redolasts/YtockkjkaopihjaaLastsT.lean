/- RedoLasts: what stands between its steps. -/
import Derived.Test.YtockkjkaopihjaaAgainW
import Derived.Test.YtockkjkaopihjaaIns
namespace Go.Proofs.Ytockkjkaopihjaa
open Go.RowKit

/-- A device and a log on it, in variables of their own. -/
structure Base6 (w : World) (b : Nat) (L : Lay) (lg bd bg : Nat) (w3 : World) : Prop where
  d : ∃ A, DevL w3 b L A ∧ Calm 32 False A 0 (fun _ => 0)
  log : LogAt w3 lg b 0 64
  nlg : ¬ foot b L lg
  xd : Box w3 bd (ptr b)
  nd : ¬ foot b L bd
  xg : Box w3 bg (ptr lg)
  ng : ¬ foot b L bg
  fr : Fr (fun _ => False) w w3
  new : ∀ k, foot b L k → w.heap.size ≤ k

/-- Within the first loop. -/
structure LsJ (w3 : World) (b : Nat) (L : Lay) (aw an k : Nat) (base : Nat → Int) (wr : World) : Prop where
  dev : ∃ L1 A1 f, On w3 b L wr L1 A1 ∧ Calm 32 False A1 (129 * k) f ∧ Clean 0 64 base f ∧ ¬ foot b L1 aw ∧ ¬ foot b L1 an
  ra : ArrAt wr aw base
  rn : ArrAt wr an base

/-- Behind it. -/
structure LsE (w3 : World) (b : Nat) (L : Lay) (aw an : Nat) (base : Nat → Int) (xs : List (Int × Int)) (wr : World) : Prop where
  dev : ∃ L1 A1, On w3 b L wr L1 A1 ∧ Rest base xs 2709 A1 ∧ ¬ foot b L1 aw ∧ ¬ foot b L1 an
  ra : ArrAt wr aw base
  rn : ArrAt wr an (homed xs.reverse base)
  few : xs.length ≤ 24

/-- Within the second, with the power back. -/
structure LsS (w3 : World) (b : Nat) (L : Lay) (aw an : Nat) (base nxt : Nat → Int) (xs : List (Int × Int)) (s : Int) (wr : World) : Prop where
  dev : ∃ L1 A1 h, On w3 b L wr L1 A1 ∧ (∀ free, Calm 32 free A1 s h) ∧ Stand base xs h ∧ ¬ foot b L1 aw ∧ ¬ foot b L1 an
  ra : ArrAt wr aw base
  rn : ArrAt wr an nxt

section
variable {w w3 wr w' : World} {b lg bd bg aw an k : Nat} {L L1 : Lay} {A1 : Ab} {base nxt : Nat → Int} {xs : List (Int × Int)} {s : Int}

theorem LsJ.ends (j : LsJ w3 b L aw an k base wr) (hk : k ≤ 20) : LsE w3 b L aw an base [] wr := by
  obtain ⟨L1, A1, f, o, c, cl, n1, n2⟩ := j.dev
  exact ⟨⟨L1, A1, o, (stand_calm c (clean_stand cl)).more (by omega), n1, n2⟩, j.ra, j.rn, by simp⟩

/-- The power comes back. -/
theorem power_s (o : On w3 b L wr L1 A1) (r : Rest base xs s A1) (hs : s < 4294967296) (na : ¬ foot b L1 aw) (nn : ¬ foot b L1 an) (ra : ArrAt wr aw base) (rn : ArrAt wr an nxt) (B : Base6 w b L lg bd bg w3) (flip : Bool) (ka : Option Addr) (klen kcap : Nat) (ks : Nat → Int) (hk : Nums w ka klen ks) (hkl : klen ≤ maxLen) :
    Calls Try.prog 15 #[ptr b, .bool flip, .slice ka klen kcap] wr fun e w' => e = .returned (.tuple #[]) ∧ LsS w3 b L aw an base nxt xs s w' := by
  refine (p_power o.d r.1 r.2.1 hs flip ka klen kcap ks hkl (fun k hk' => by
    obtain ⟨xb, xo, rfl, hc⟩ := hk k hk'
    have hxw : xb < w.heap.size := World.block_lt_of_cell? _ _ hc
    exact ⟨xb, xo, rfl, o.fr.cell' (B.fr.cell' hc (fun h => h)) (fun hf => by have : w.heap.size ≤ xb := B.new _ hf; omega)⟩)).mono ?_
  rintro e w' ⟨rfl, D⟩
  obtain ⟨L7, A7, o7, h7, p7, c7⟩ := D.on
  exact ⟨rfl, ⟨L7, A7, h7, o.trans o7, c7, r.2.2 h7 p7, o7.other ra.lt na, o7.other rn.lt nn⟩, ra.kept o7.fr na, rn.kept o7.fr nn⟩

theorem power_c {free : Prop} {h : Nat → Int} (o : On w3 b L wr L1 A1) (c : Calm 32 free A1 s h) (hs : s < 4294967296) (B : Base6 w b L lg bd bg w3) (flip : Bool) (ka : Option Addr) (klen kcap : Nat) (ks : Nat → Int) (hk : Nums w ka klen ks) (hkl : klen ≤ maxLen) :
    Calls Try.prog 15 #[ptr b, .bool flip, .slice ka klen kcap] wr fun e w' => e = .returned (.tuple #[]) ∧ ∃ L2 A2, On wr b L1 w' L2 A2 ∧ ∀ free, Calm 32 free A2 s h := by
  refine (p_power o.d c.n c.st hs flip ka klen kcap ks hkl (fun k hk' => by
    obtain ⟨xb, xo, rfl, hc⟩ := hk k hk'
    have hxw : xb < w.heap.size := World.block_lt_of_cell? _ _ hc
    exact ⟨xb, xo, rfl, o.fr.cell' (B.fr.cell' hc (fun h => h)) (fun hf => by have : w.heap.size ≤ xb := B.new _ hf; omega)⟩)).mono ?_
  rintro e w' ⟨rfl, D⟩
  obtain ⟨L7, A7, o7, h7, p7, c7⟩ := D.on
  rw [calm_poss c p7] at c7
  exact ⟨rfl, L7, A7, o7, c7⟩

/-- An array that stands by itself is turned. -/
theorem ArrAt.row {g : Nat} {f f' : Nat → Int} (h : ArrAt wr g f) : ArrAt (wr.setRow g (arr 256 f')) g f' := setRow_heap wr g _ _ _ _ h
end
end Go.Proofs.Ytockkjkaopihjaa
