/- The law's own Open and awake. -/
import Derived.Test.YtamghkabclbkgaaCommitE
namespace Go.Proofs.Ytamghkabclbkgaa
open Go.RowKit

section
variable {w : World} {b : Nat} {L : Lay} {N : Nat} {A : Ab} {s : Int} {f : Nat → Int} {free : Prop}

theorem Mid.poss {g : Nat → Int} {fl : List Nat} (h : Mid N free A s f g fl) {k : Nat → Int} (hp : Poss A k) : ∀ j, k j = g j ∨ k j = f j := fun j => by
  have := hp j
  rwa [h.now, h.lasts] at this
theorem calm_poss (h : Calm N free A s f) {k : Nat → Int} (hp : Poss A k) : k = f := funext fun j => (h.poss hp j).elim id id
theorem Clean.of_poss {at_ ws : Nat} {base : Nat → Int} (c : Clean at_ ws base f) (h : Calm N free A s f) {k : Nat → Int} (hp : Poss A k) : Clean at_ ws base k := by rw [calm_poss h hp]; exact c

theorem powered_calm (hn : A.n = N) (hs : A.steps ≤ s) (flip : Bool) (named : Nat → Bool) : ∃ h, Poss A h ∧ ∀ free, Calm N free (A.powered flip named) s h := by
  refine ⟨fun j => if named j = flip then A.lasts j else A.now j, fun j => ?_, fun free => ⟨hn, rfl, by simp [Ab.powered], fun _ => by simp [Ab.powered], hs, fun _ => rfl, fun _ => rfl, fun _ => by simp [Ab.powered]⟩⟩
  by_cases e : named j = flip
  · right; simp [e]
  · left; simp [e]

/-- The power comes back: something of what may be. -/
theorem p_power (d : DevL w b L A) (hn : A.n = N) (hs : A.steps ≤ s) (hs2 : s < 4294967296) (flip : Bool) (la : Option Addr) (len cap : Nat) (zs : Nat → Int) (hlen : len ≤ maxLen)
    (hl : ∀ k, k < len → ∃ xb xo, la = some ⟨xb, xo, none⟩ ∧ w.cell? ⟨xb, xo + k, none⟩ = some (.int .i64 (zs k))) :
    Calls Try.prog 15 #[ptr b, .bool flip, .slice la len cap] w fun e w' => e = .returned (.tuple #[]) ∧ DM w b L w' fun A' => ∃ h, Poss A h ∧ ∀ free, Calm N free A' s h := by
  refine (power_row d (by omega) flip la len cap zs hlen hl).mono ?_
  rintro e w' ⟨rfl, L', d', f', s'⟩
  exact ⟨rfl, L', _, d', powered_calm hn hs flip _, f', fun k hk => .inl (s' k hk)⟩
theorem p_power_nil (d : DevL w b L A) (hn : A.n = N) (hs : A.steps ≤ s) (hs2 : s < 4294967296) (flip : Bool) :
    Calls Try.prog 15 #[ptr b, .bool flip, .slice none 0 0] w fun e w' => e = .returned (.tuple #[]) ∧ DM w b L w' fun A' => ∃ h, Poss A h ∧ ∀ free, Calm N free A' s h :=
  p_power d hn hs hs2 flip none 0 0 (fun _ => 0) (Nat.zero_le _) (fun k hk => by omega)

/-- A new device with a log on it. -/
structure Opened (w : World) (b lg : Nat) (L : Lay) (w' : World) : Prop where
  d : DevL w' b L (Ab.fresh 32)
  log : LogAt w' lg b 0 64
  nlg : ¬ foot b L lg
  fr : Fr (fun _ => False) w w'
  new : ∀ k, foot b L k → w.heap.size ≤ k
  nl : w.heap.size ≤ lg

theorem clean0 (at_ ws : Nat) : Clean at_ ws (fun _ => 0) (fun _ => 0) := ⟨rfl, fun _ _ => rfl⟩

end
end Go.Proofs.Ytamghkabclbkgaa
