/- Var at the front of joined parts: a small length, whole or torn. -/
import Derived.Test.YtdmfooejjpppkaaJn
namespace Go.Proofs.Ytdmfooejjpppkaa
open Go.RowKit

set_option maxRecDepth 100000 in
theorem and127 (x : Nat) (h : x < 256) : bits .and .u8 (x : Int) 127 = ((x % 128 : Nat) : Int) := by
  rw [show (127 : Int) = ((127 : Nat) : Int) from rfl, u8_and_nat x 127 h (by decide), nat_mask7]
theorem or7 (x y : Nat) (hx : x < 128) (hy : y < 128) : bits .or .u64 ((x : Int) * 128) (y : Int) = ((x * 128 + y : Nat) : Int) := by
  have e : (x : Int) * 128 = ((x * 128 : Nat) : Int) := by omega
  rw [e, u64_or_nat _ _ (by omega) (by omega), nat_join 7 _ _ (by omega) (by omega)]
theorem or0 (y : Nat) (hy : y < 128) : bits .or .u64 0 (y : Int) = (y : Int) := by
  rw [show (0 : Int) = ((0 : Nat) : Int) from rfl, u64_or_nat _ _ (by omega) (by omega), Nat.zero_or]

/-- What Var tells of a small number at the front. -/
def varR (n len : Nat) : Array Value := if n < 128 ∨ 2 ≤ len then #[.int .u64 (n : Nat), .int .i64 (ul n : Nat), .int .i64 0] else #[.int .u64 0, .int .i64 0, .int .i64 4]

set_option maxRecDepth 100000 in
set_option maxHeartbeats 2000000 in
theorem var_ok (a : Option Addr) (len cap : Nat) (f : Nat → Nat) (n : Nat) (w : World) (hN : Nats .u8 w a len f) (h0 : 0 < len) (hl : len ≤ 100000) (hn : n < 16384) (h1 : n < 128 → f 0 = n) (h2 : ¬ n < 128 → f 0 = n % 128 + 128 ∧ (2 ≤ len → f 1 = n / 128)) :
    Calls Try.prog 19 #[.slice a len cap] w fun e w' => e = .returned (.tuple (varR n len)) ∧ w' = w := by
  obtain ⟨xb, xo, rfl, c0⟩ := hN 0 h0
  rw [Nat.add_zero] at c0
  have h0' : (0 : Int) < len := by omega
  have hne : ¬ (0 : Int) = len := by omega
  by_cases hs : n < 128
  · rw [h1 hs] at c0
    have HR := hide (show varR n len = #[.int .u64 (n : Nat), .int .i64 1, .int .i64 0] by unfold varR ul; rw [if_pos (.inl hs), if_pos hs]; rfl)
    have e1 := and127 n (by omega)
    rw [Nat.mod_eq_of_lt hs] at e1
    have e2 := or0 n hs
    have hs' : ¬ (128 : Int) ≤ n := by omega
    clear hN h1 h2
    go_enter Try.func19, Try.ntmps19
    go_wp2_with fail
    go_loop [5] (fun v => v = .int .i64 0) (fun _ => 0)
    case atStart => rfl
    case round =>
      obtain rfl := hrel
      go_wp2_with fail
      go_loop [2, 6] (fun x i => (x = .int .u64 0 ∧ i = .int .i64 0) ∨ (x = .int .u64 (n : Nat) ∧ i = .int .i64 (-1))) (fun _ i => (RowKit.intOf i + 1).toNat)
      case atStart => exact .inl ⟨rfl, rfl⟩
      case round =>
        rcases hrel with ⟨rfl, rfl⟩ | ⟨rfl, rfl⟩
        · go_wp2
          exact ⟨.inr ⟨rfl, rfl⟩, by simp [RowKit.intOf]⟩
        · go_wp2
          go_ret3
          exact ⟨by rw [unhide HR]; rfl, rfl⟩
  · obtain ⟨f0, f1⟩ := h2 hs
    rw [f0] at c0
    have hs' : (128 : Int) ≤ ((n % 128 + 128 : Nat) : Int) := by omega
    by_cases h2l : 2 ≤ len
    · have HR := hide (show varR n len = #[.int .u64 (n : Nat), .int .i64 2, .int .i64 0] by unfold varR ul; rw [if_pos (.inr h2l), if_neg hs]; rfl)
      obtain ⟨_, _, e, c1⟩ := hN 1 h2l
      cases e
      rw [f1 h2l] at c1
      have e1 := and127 (n % 128 + 128) (by omega)
      rw [show (n % 128 + 128) % 128 = n % 128 by omega] at e1
      have e2 := and127 (n / 128) (by omega)
      rw [show n / 128 % 128 = n / 128 by omega] at e2
      have e3 := or0 (n / 128) (by omega)
      have e4 := or7 (n / 128) (n % 128) (by omega) (by omega)
      rw [show n / 128 * 128 + n % 128 = n by omega] at e4
      have l1 : (1 : Int) < len := by omega
      have ne1 : ¬ (1 : Int) = len := by omega
      have t1 : ¬ (128 : Int) ≤ ((n / 128 : Nat) : Int) := by omega
      have t0 : ¬ ((n / 128 : Nat) : Int) = 0 := by omega
      have hw1 : IntKind.u64.wrap (((n / 128 : Nat) : Int) * 128) = ((n / 128 : Nat) : Int) * 128 := by rw [IntKind.wrap_u64]; omega
      have hw2 : IntKind.u64.wrap ((n % 128 : Nat) : Int) = ((n % 128 : Nat) : Int) := by rw [IntKind.wrap_u64]; omega
      have HB := hide (show n / 128 < 128 ∧ n % 128 < 128 from ⟨by omega, by omega⟩)
      clear hN h1 h2 f0 f1 hs
      generalize hq : n / 128 = q at *
      generalize hr : n % 128 + 128 = r at *
      generalize hm : n % 128 = m at *
      clear hq hr hm
      go_enter Try.func19, Try.ntmps19
      go_wp2_with fail
      go_loop [5] (fun v => v = .int .i64 0 ∨ v = .int .i64 1) (fun v => 1 - (RowKit.intOf v).toNat)
      case atStart => exact .inl rfl
      case round =>
        rcases hrel with rfl | rfl
        · go_wp2
          exact ⟨.inr rfl, by simp [RowKit.intOf]⟩
        · go_wp2_with fail
          go_loop [2, 6] (fun x i => (x = .int .u64 0 ∧ i = .int .i64 1) ∨ (x = .int .u64 (q : Nat) ∧ i = .int .i64 0) ∨ (x = .int .u64 (n : Nat) ∧ i = .int .i64 (-1))) (fun _ i => (RowKit.intOf i + 1).toNat)
          case atStart => exact .inl ⟨rfl, rfl⟩
          case round =>
            rcases hrel with ⟨rfl, rfl⟩ | ⟨rfl, rfl⟩ | ⟨rfl, rfl⟩
            · go_wp2
              exact ⟨.inr (.inl ⟨rfl, rfl⟩), by simp [RowKit.intOf]⟩
            · go_wp2
              exact ⟨.inr (.inr ⟨rfl, rfl⟩), by simp [RowKit.intOf]⟩
            · go_wp2
              go_ret3
              exact ⟨by rw [unhide HR]; rfl, rfl⟩
    · obtain rfl : len = 1 := by omega
      have HR := hide (show varR n 1 = #[.int .u64 0, .int .i64 0, .int .i64 4] by unfold varR; rw [if_neg (by omega)])
      clear hN h1 h2 f0 f1 hs hne
      generalize n % 128 + 128 = r at *
      go_enter Try.func19, Try.ntmps19
      go_wp2_with fail
      go_loop [5] (fun v => v = .int .i64 0 ∨ v = .int .i64 1) (fun v => 1 - (RowKit.intOf v).toNat)
      case atStart => exact .inl rfl
      case round =>
        rcases hrel with rfl | rfl
        · go_wp2
          exact ⟨.inr rfl, by simp [RowKit.intOf]⟩
        · go_wp2
          go_ret3
          exact ⟨by rw [unhide HR]; rfl, rfl⟩

theorem strB_get (f : Nat → Nat) (n k : Nat) (hf : f k < 256) : ∀ h : k < (strB f n).size, ((strB f n)[k]'h).toNat = f k := by
  intro h
  have h1 : k < (strB f n).data.size := h
  have h2 : (strB f n).data[k] = UInt8.ofNat (f k) := by simp [strB, strOfNums, rowL]
  show ((strB f n).data[k]).toNat = f k
  rw [h2]; simp; omega
theorem or0r (x y : Nat) (hx : x < 128) (hy : y < 128) : bits .or .u64 (x : Int) ((y : Int) * 128) = ((y * 128 + x : Nat) : Int) := by
  have e : (y : Int) * 128 = ((y * 128 : Nat) : Int) := by omega
  rw [e, u64_or_nat _ _ (by omega) (by omega), Nat.or_comm, nat_join 7 _ _ (by omega) (by omega)]

set_option maxRecDepth 100000 in
set_option maxHeartbeats 2000000 in
theorem refVar_ok (len : Nat) (f : Nat → Nat) (n : Nat) (w : World) (hf : ∀ i, i < len → f i < 256) (h0 : 0 < len) (hl : len ≤ 100000) (hn : n < 16384) (h1 : n < 128 → f 0 = n) (h2 : ¬ n < 128 → f 0 = n % 128 + 128 ∧ (2 ≤ len → f 1 = n / 128)) :
    Calls Try.prog 20 #[.string (strB f len)] w fun e w' => e = .returned (.tuple (varR n len)) ∧ w' = w := by
  have hsz := strB_size f len
  have x0 := strB_get f len 0 (hf 0 h0)
  have h0' : ¬ (len : Int) ≤ 0 := by omega
  by_cases hs : n < 128
  · replace x0 : ∀ h : 0 < (strB f len).size, ((strB f len)[0]'h).toNat = n := fun h => (x0 h).trans (h1 hs)
    have HR := hide (show varR n len = #[.int .u64 (n : Nat), .int .i64 1, .int .i64 0] by unfold varR ul; rw [if_pos (.inl hs), if_pos hs]; rfl)
    have e1 := and127 n (by omega)
    rw [Nat.mod_eq_of_lt hs] at e1
    have e2 := or0 n hs
    have hs' : (n : Int) < 128 := by omega
    have hw2 : IntKind.u64.wrap (n : Int) = n := by rw [IntKind.wrap_u64]; omega
    clear h1 h2
    generalize strB f len = sb at *
    go_enter Try.func20, Try.ntmps20
    go_wp2_with fail
    go_loop [5, 6] (fun x i => x = .int .u64 0 ∧ i = .int .i64 0) (fun _ _ => 0)
    case atStart => exact ⟨rfl, rfl⟩
    case round =>
      obtain ⟨rfl, rfl⟩ := hrel
      by_cases hn0 : n = 0
      · subst hn0
        have z1 : bits .and .u8 0 127 = 0 := by decide
        have z2 : bits .or .u64 0 0 = 0 := by decide
        have z3 : IntKind.u64.wrap 0 = 0 := by decide
        go_wp2
        go_ret3
        exact ⟨by rw [unhide HR]; rfl, rfl⟩
      · have hn0' : ¬ (n : Int) = 0 := by omega
        go_wp2
        go_ret3
        exact ⟨by rw [unhide HR]; rfl, rfl⟩
  · obtain ⟨f0, f1⟩ := h2 hs
    replace x0 : ∀ h : 0 < (strB f len).size, ((strB f len)[0]'h).toNat = n % 128 + 128 := fun h => (x0 h).trans f0
    have hs' : ¬ ((n % 128 + 128 : Nat) : Int) < 128 := by omega
    have e1 := and127 (n % 128 + 128) (by omega)
    rw [show (n % 128 + 128) % 128 = n % 128 by omega] at e1
    have e3 := or0 (n % 128) (by omega)
    have hw2 : IntKind.u64.wrap ((n % 128 : Nat) : Int) = ((n % 128 : Nat) : Int) := by rw [IntKind.wrap_u64]; omega
    by_cases h2l : 2 ≤ len
    · have HR := hide (show varR n len = #[.int .u64 (n : Nat), .int .i64 2, .int .i64 0] by unfold varR ul; rw [if_pos (.inr h2l), if_neg hs]; rfl)
      have x1 := strB_get f len 1 (hf 1 h2l)
      replace x1 : ∀ h : 1 < (strB f len).size, ((strB f len)[1]'h).toNat = n / 128 := fun h => (x1 h).trans (f1 h2l)
      have e2 := and127 (n / 128) (by omega)
      rw [show n / 128 % 128 = n / 128 by omega] at e2
      have e4 := or0r (n % 128) (n / 128) (by omega) (by omega)
      rw [show n / 128 * 128 + n % 128 = n by omega] at e4
      have l1 : ¬ (len : Int) ≤ 1 := by omega
      have t1 : ((n / 128 : Nat) : Int) < 128 := by omega
      have t0 : ¬ ((n / 128 : Nat) : Int) = 0 := by omega
      have hw1 : IntKind.u64.wrap (((n / 128 : Nat) : Int) * 128) = ((n / 128 : Nat) : Int) * 128 := by rw [IntKind.wrap_u64]; omega
      clear h1 h2 f0 f1 hs
      generalize hq : n / 128 = q at *
      generalize hr : n % 128 + 128 = r at *
      generalize hm : n % 128 = m at *
      clear hq hr hm
      generalize strB f len = sb at *
      go_enter Try.func20, Try.ntmps20
      go_wp2_with fail
      go_loop [5, 6] (fun x i => (x = .int .u64 0 ∧ i = .int .i64 0) ∨ (x = .int .u64 (m : Nat) ∧ i = .int .i64 1)) (fun _ i => 1 - (RowKit.intOf i).toNat)
      case atStart => exact .inl ⟨rfl, rfl⟩
      case round =>
        rcases hrel with ⟨rfl, rfl⟩ | ⟨rfl, rfl⟩
        · go_wp2
          exact ⟨.inr ⟨rfl, rfl⟩, by simp [RowKit.intOf]⟩
        · go_wp2
          go_ret3
          exact ⟨by rw [unhide HR]; rfl, rfl⟩
    · obtain rfl : len = 1 := by omega
      have HR := hide (show varR n 1 = #[.int .u64 0, .int .i64 0, .int .i64 4] by unfold varR; rw [if_neg (by omega)])
      clear h1 h2 f0 f1 hs
      generalize hr : n % 128 + 128 = r at *
      generalize hm : n % 128 = m at *
      clear hr hm
      generalize strB f 1 = sb at *
      go_enter Try.func20, Try.ntmps20
      go_wp2_with fail
      go_loop [5, 6] (fun x i => (x = .int .u64 0 ∧ i = .int .i64 0) ∨ (x = .int .u64 (m : Nat) ∧ i = .int .i64 1)) (fun _ i => 1 - (RowKit.intOf i).toNat)
      case atStart => exact .inl ⟨rfl, rfl⟩
      case round =>
        rcases hrel with ⟨rfl, rfl⟩ | ⟨rfl, rfl⟩
        · go_wp2
          exact ⟨.inr ⟨rfl, rfl⟩, by simp [RowKit.intOf]⟩
        · go_wp2
          go_ret3
          exact ⟨by rw [unhide HR]; rfl, rfl⟩
end Go.Proofs.Ytdmfooejjpppkaa
