/- How guards about an act end. -/
import Derived.Test.YtebfocfofoajkabDeedTry
namespace Go.Proofs.Ytebfocfofoajkab
open Go.RowKit

theorem onlyI_deed {a : Deed} {pn pa c : Nat} {x : Int} {w : World} (l : Lies a pn pa c x w) :
    Calls Try.prog 17 #[deedF pn pa] w fun e w' => ∃ h, h.only 3 (.int .i64 0) e ∧ Fr (fun k => k = c) w w' ∧ w'.heap[c]? = some (.cells #[.int .i64 (x + 1)] 3) ∧ a.tells (w.heap.size + 1) h w' :=
  onlyI_raw (try_deed l) fun _ _ ⟨_, _, t⟩ => t.known

/-- Only[int] about an act. -/
theorem Deed.tells.onlyI {a : Deed} {B : Nat} {h : How} {w : World} {e : Ending} (t : a.tells B h w) (he : h.only 3 (.int .i64 0) e) :
    (a.kind = 1 ∧ e = .returned (.tuple #[.int .i64 a.n, .bool true])) ∨ (a.bad = false ∧ e = .returned (.tuple #[.int .i64 0, .bool false])) ∨
    (a.bad = true ∧ a.kind ≠ 1 ∧ ∃ t x, e = .panicked [{ v := .iface t x, recovered := false }] ∧ h = .bad t x) := by
  rcases t with ⟨hk, rfl⟩ | ⟨hk, rfl⟩ | ⟨hk, rfl⟩ | ⟨hk, b, _, rfl, _⟩ | ⟨hk, rfl⟩
  · rcases he with ⟨_, rfl⟩ | ⟨h, _⟩
    · exact .inl ⟨hk, rfl⟩
    · exact absurd rfl h
  · rcases he with ⟨h, _⟩ | ⟨_, rfl⟩
    · exact absurd h (by decide)
    · exact .inr (.inr ⟨by simp [Deed.bad, hk], by omega, _, _, rfl, rfl⟩)
  · rcases he with ⟨h, _⟩ | ⟨_, rfl⟩
    · exact absurd h (by decide)
    · exact .inr (.inr ⟨by simp [Deed.bad, hk], by omega, _, _, rfl, rfl⟩)
  · rcases he with ⟨h, _⟩ | ⟨_, rfl⟩
    · exact absurd h (by decide)
    · exact .inr (.inr ⟨by simp [Deed.bad, hk], by omega, _, _, rfl, rfl⟩)
  · cases he
    exact .inr (.inl ⟨by simp [Deed.bad]; omega, rfl⟩)

/-- Errno about an act ends so: a number; or the act's panic goes on. -/
theorem Deed.tells.errno {a : Deed} {B : Nat} {h : How} {w : World} {e : Ending} (t : a.tells B h w) (he : h.errno e) :
    (∃ y, e = .returned (.int .i64 y) ∧ ((a.kind = 3 ∧ y = a.n) ∨ (a.bad = false ∧ y = 0))) ∨ (∃ t x, e = .panicked [{ v := .iface t x, recovered := false }] ∧ a.tells B (.bad t x) w ∧ a.kind ≠ 3 ∧ a.bad = true) := by
  have t' := t
  rcases t with ⟨hk, rfl⟩ | ⟨hk, rfl⟩ | ⟨hk, rfl⟩ | ⟨hk, b, _, rfl, _⟩ | ⟨hk, rfl⟩
  · rcases he with ⟨h, _⟩ | ⟨_, rfl⟩
    · exact absurd h (by decide)
    · exact .inr ⟨_, _, rfl, t', by omega, by simp [Deed.bad, hk]⟩
  · rcases he with ⟨h, _⟩ | ⟨_, rfl⟩
    · exact absurd h (by decide)
    · exact .inr ⟨_, _, rfl, t', by omega, by simp [Deed.bad, hk]⟩
  · rcases he with ⟨_, rfl⟩ | ⟨h, _⟩
    · exact .inl ⟨_, rfl, .inl ⟨hk, rfl⟩⟩
    · exact absurd rfl h
  · rcases he with ⟨h, _⟩ | ⟨_, rfl⟩
    · exact absurd h (by decide)
    · exact .inr ⟨_, _, rfl, t', by omega, by simp [Deed.bad, hk]⟩
  · cases he
    exact .inl ⟨_, rfl, .inr ⟨by simp [Deed.bad]; omega, rfl⟩⟩

/-- The three cells of an act. -/
theorem deed_cells {a : Deed} {w : World} {p : Nat} (h : w.heap[p]? = some a.obj) :
    w.cell? ⟨p, 0, none⟩ = some (.int .i64 a.kind) ∧ w.cell? ⟨p, 1, none⟩ = some (.int .i64 a.n) ∧ w.cell? ⟨p, 2, none⟩ = some (.string a.s) :=
  ⟨cell_of_obj h 0, cell_of_obj h 1, cell_of_obj h 2⟩
theorem beq_bool (x y : Bool) (w : World) : (binOp .eql 4 (.bool x) (.bool y)).run Try.prog w = .ok (.bool (x == y)) w := by
  cases x <;> cases y <;> kernel_rfl
end Go.Proofs.Ytebfocfofoajkab
