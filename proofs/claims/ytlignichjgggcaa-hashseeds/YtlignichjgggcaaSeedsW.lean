/- HashSeeds walked. -/
import Derived.Test.YtlignichjgggcaaHash4
import Derived.Below
import Derived.Deep.RegionHeld
import Derived.Laws.IdiomStrings
namespace Go.Proofs.Ytlignichjgggcaa
open Go.RowKit

theorem join_back (x : Nat) (h : x < 18446744073709551616) : x * 1099511628211 % 18446744073709551616 * 14886173955864302971 % 18446744073709551616 = x := by
  omega
theorem join_inj (h k b c : Nat) (hx : h ^^^ b < 18446744073709551616) (hy : k ^^^ c < 18446744073709551616) (e : joinN h b = joinN k c) : h ^^^ b = k ^^^ c := by
  unfold joinN at e
  rw [← join_back _ hx, ← join_back _ hy, e]
theorem seed_zero (a k : Nat) (ha : a < 256) (hk : 1 ≤ k) : seedN a (k + 1) = joinN (seedN a k) 0 := by
  show joinN (seedN a k) (a / 256 ^ k % 256) = _
  rw [Nat.div_eq_of_lt (Nat.lt_of_lt_of_le ha (by
    have := Nat.pow_le_pow_right (n := 256) (by decide) hk
    simpa using this))]
theorem seed_inj (a b : Nat) (ha : a < 256) (hb : b < 256) : ∀ k, seedN a (k + 1) = seedN b (k + 1) → a = b := by
  intro k
  induction k with
  | zero =>
    intro e
    have h1 : seedN a 1 = joinN 14695981039346656037 a := by show joinN _ (a / 256 ^ 0 % 256) = _; rw [Nat.pow_zero, Nat.div_one, Nat.mod_eq_of_lt ha]; rfl
    have h2 : seedN b 1 = joinN 14695981039346656037 b := by show joinN _ (b / 256 ^ 0 % 256) = _; rw [Nat.pow_zero, Nat.div_one, Nat.mod_eq_of_lt hb]; rfl
    rw [Nat.zero_add, h1, h2] at e
    have := join_inj _ _ _ _ (Nat.xor_lt_two_pow (n := 64) (by decide) (by omega)) (Nat.xor_lt_two_pow (n := 64) (by decide) (by omega)) e
    have h3 := congrArg (14695981039346656037 ^^^ ·) this
    simpa [← Nat.xor_assoc] using h3
  | succ k ih =>
    intro e
    rw [seed_zero a (k + 1) ha (by omega), seed_zero b (k + 1) hb (by omega)] at e
    have := join_inj _ _ _ _ (by rw [Nat.xor_zero]; exact seed_lt _ _) (by rw [Nat.xor_zero]; exact seed_lt _ _) e
    rw [Nat.xor_zero, Nat.xor_zero] at this
    exact ih this
theorem of_same (a b : Nat) (ha : a < 256) (hb : b < 256) : ofN a ⟨#[]⟩ = ofN b ⟨#[]⟩ ↔ a = b := by
  refine ⟨fun h => ?_, fun h => by rw [h]⟩
  have e : ∀ s, ofN s ⟨#[]⟩ = mixN (seedN s 8) := fun _ => rfl
  rw [e, e, mix_same _ _ (seed_lt _ _) (seed_lt _ _)] at h
  exact seed_inj a b ha hb 7 h

theorem below_two (w : World) (o p : Obj) : Below w.heap.size w ((w.alloc o).alloc p).drew := by
  have h := ((Below.refl w.heap.size w).alloc (Nat.le_refl _) o)
  have k := h.alloc h.size p
  exact ⟨k.1, k.2, k.3, k.4, k.5⟩
theorem conv_one (g c : Nat) (hc : c < 256) (w : World) (h : w.cell? ⟨g, 0, none⟩ = some (.int .u8 (c : Int))) : (convert 24 9 (.slice (some ⟨g, 0, none⟩) 1 1)).run Try.prog w = .ok (.string ⟨#[UInt8.ofNat c]⟩) w := by
  refine run_convert_bytes_back (P := Try.prog) w 24 9 5 ⟨g, 0, none⟩ 1 [UInt8.ofNat c] Try.underlying24 Try.underlying5 Try.underlying9 fun j hj => ?_
  obtain rfl : j = 0 := by simpa using hj
  rw [show (⟨g, 0, none⟩ : Addr).add 0 = ⟨g, 0, none⟩ from rfl, h]
  have : (UInt8.ofNat c).toNat = c := by simp; omega
  simp [this]
set_option maxRecDepth 100000 in
set_option maxHeartbeats 2000000 in
theorem seeds_ok (a b c : Nat) (ha : a < 256) (hb : b < 256) (hc : c < 256) (w : World) : Calls Try.prog 3 #[.int .u8 a, .int .u8 b, .int .u8 c] w fun e w' => e = .returned (.bool true) ∧ Below w.heap.size w w' := by
  have K1 := hide (of_ok a ⟨#[]⟩ (by omega) (by decide) w)
  have K2 := hide (of_ok b ⟨#[]⟩ (by omega) (by decide) w)
  have K3 := hide (fun w => of_ok a ⟨#[UInt8.ofNat c]⟩ (by omega) (by show (1 : Nat) ≤ 1000; omega) w)
  have K4 := hide (fun w => refOf_ok a ⟨#[UInt8.ofNat c]⟩ (by omega) (by show (1 : Nat) ≤ 1000; omega) w)
  have KA := hide awake_ok
  have hs := of_same a b ha hb
  obtain ⟨q, h1, h2⟩ : ∃ q : Bool, ((ofN a ⟨#[]⟩ : Int) == (ofN b ⟨#[]⟩ : Int)) = q ∧ ((a : Int) == (b : Int)) = q := by
    by_cases h : a = b
    · exact ⟨true, by rw [h]; simp, by rw [h]; simp⟩
    · have h' : ¬ ofN a ⟨#[]⟩ = ofN b ⟨#[]⟩ := fun e => h (hs.1 e)
      exact ⟨false, by simp; omega, by simp; omega⟩
  clear hs
  generalize ofN a ⟨#[]⟩ = x at *
  generalize ofN b ⟨#[]⟩ = y at *
  generalize ofN a ⟨#[UInt8.ofNat c]⟩ = z at *
  have hwa : IntKind.u64.wrap (a : Int) = a := by rw [wrapN, Nat.mod_eq_of_lt (by omega)]
  have hcv : ∀ g w', w'.cell? ⟨g, 0, none⟩ = some (.int .u8 (c : Int)) → (convert 24 9 (.slice (some ⟨g, 0, none⟩) 1 1)).run Try.prog w' = .ok (.string ⟨#[UInt8.ofNat c]⟩) w' := fun g w' h => conv_one g c hc w' h
  go_enter Try.func3, Try.ntmps3
  go_wp2_with fail
  refine (unhide K1).mono ?_
  rintro e w' ⟨rfl, h⟩; rw [h]; clear h w'
  go_wp2_with fail
  refine (unhide K2).mono ?_
  rintro e w' ⟨rfl, h⟩; rw [h]; clear h w'
  go_wp2_with fail
  go_region_held (fun _ => True) (trivial) (first | (go_at_call 8; refine (unhide K3 _).mono ?_; rintro e w' ⟨rfl, h⟩; rw [h]; clear h w') | (go_at_call 9; refine (unhide K4 _).mono ?_; rintro e w' ⟨rfl, h⟩; rw [h]; clear h w') | (go_at_call 10; refine (unhide KA _).mono ?_; rintro e w' ⟨rfl, h⟩; rw [h]; clear h w'))
  all_goals
    go_wp2
    go_ret
    exact ⟨rfl, below_two _ _ _⟩
end Go.Proofs.Ytlignichjgggcaa
