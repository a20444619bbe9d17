/- order: scores as bytes. -/
import Derived.Test.YtnfpccmnifhflabDoorOb
import Derived.Test.YtnfpccmnifhflabDoorShelf
namespace Go.Proofs.YtnfpccmnifhflabDoor
open Go.RowKit

theorem unbe_snoc (l : List UInt8) (k : Nat) (c : UInt8) (h : l[k]? = some c) : unbe (l.take (k + 1)) = unbe (l.take k) * 256 + c.toNat := by
  rw [List.take_add_one, h]
  unfold unbe
  rw [List.foldl_append]
  rfl
theorem or8 (x y : Nat) (hx : x < 72057594037927936) (hy : y < 256) : bits .or .u64 ((x : Int) * 256) (y : Int) = ((x * 256 + y : Nat) : Int) := by
  have e : (x : Int) * 256 = ((x * 256 : Nat) : Int) := by omega
  have h := Nat.two_pow_add_eq_or_of_lt (i := 8) (b := y) hy x
  rw [e, u64_or_nat _ _ (by omega) (by omega), Nat.mul_comm x 256, ← h]

/-- What TakeScore tells. -/
def tsV (l : List UInt8) : Array Value := if l.length < 8 then #[.float .f64 0, .string (bs []), .int .i64 4] else if codeN (backN (unbe (l.take 8))) = unbe (l.take 8) then #[.float .f64 (backN (unbe (l.take 8))), .string (bs (l.drop 8)), .int .i64 0] else #[.float .f64 0, .string (bs []), .int .i64 3]
theorem unbe8 (l : List UInt8) : unbe (l.take 8) < 18446744073709551616 := by
  have h := unbe_lt (l.take 8)
  have h2 : 256 ^ (l.take 8).length ≤ 256 ^ 8 := Nat.pow_le_pow_right (by decide) (by rw [List.length_take]; omega)
  exact Nat.lt_of_lt_of_le h (by simpa using h2)
theorem be_get : ∀ (k c j : Nat), j < k → (be k c)[j]? = some (UInt8.ofNat (c / 256 ^ (k - 1 - j)))
  | 0, _, _, h => by omega
  | k + 1, c, 0, _ => by simp [be]
  | k + 1, c, j + 1, h => by
    rw [be, List.getElem?_cons_succ, be_get k c j (by omega)]
    congr 4
    omega
theorem codeLt (x : Nat) (h : x < 18446744073709551616) : codeN x < 256 ^ 8 := by
  have := codeN_lt x h
  simpa using this
theorem alloc_mem (w : World) (t : TypeId) : Mem .u8 w w.heap.size 8 (fun _ => 0) (w.alloc (.cells #[.int .u8 0, .int .u8 0, .int .u8 0, .int .u8 0, .int .u8 0, .int .u8 0, .int .u8 0, .int .u8 0] t)) := by
  refine ⟨fun i hi => ?_, fun i => by simp, (Below.refl _ w).alloc (Nat.le_refl _) _, Nat.le_refl _⟩
  rcases i with _ | _ | _ | _ | _ | _ | _ | _ | i
  all_goals first | (exfalso; omega) | simp
set_option maxRecDepth 100000 in
theorem score_ok (x : Nat) (hx : x < 18446744073709551616) (w : World) : Calls Tryd.prog 8 #[.float .f64 x] w fun e w' => e = .returned (.string (bs (be 8 (codeN x)))) ∧ Below w.heap.size w w' := by
  have hC := code_ok x hx
  have HL := hide (codeN_lt x hx)
  generalize codeN x = C at *
  have hst := fun (w : World) (a : Addr) (x : Int) (m : Mode) => run_store Tryd.prog w a (.int .u8 x) m rfl
  go_enter Tryd.func8, Tryd.ntmps8
  go_wp2_with (first | (go_at_call 10; refine (hC _).mono ?_; rintro e w' ⟨rfl, rfl⟩))
  go_loopw [3, 5] (fun a i wr => ∃ k : Nat, a = .int .u64 (C / 256 ^ (8 - k) : Nat) ∧ i = .int .i64 ((k : Int) - 1) ∧ Hid (k ≤ 8 ∧ Mem .u8 w' w'.heap.size 8 (fun j => if j < k then 0 else C / 256 ^ (7 - j) % 256) wr)) (fun _ i _ => (RowKit.intOf i + 1).toNat)
  case atStart => exact ⟨8, by simp, by simp, hide ⟨Nat.le_refl _, (alloc_mem w' 33).ext fun i hi => by rw [if_pos hi]⟩⟩
  case round =>
    obtain ⟨k, rfl, rfl, HK⟩ := hrel
    obtain ⟨hk, hM⟩ := unhide HK
    clear HK
    cases k with
    | zero =>
      have hg : ((((0 : Nat) : Int) - 1) ≥ 0) = False := by simp
      have hcv := conv_nats wr (some ⟨w'.heap.size, 0, none⟩) 8 (be 8 C) (fun j => if j < 0 then 0 else C / 256 ^ (7 - j) % 256) (fun i c h => by
        have hi : i < 8 := by have := (List.getElem?_eq_some_iff.1 h).1; rwa [be_len] at this
        rw [be_get 8 C i hi] at h
        obtain rfl := Option.some.inj h
        simp) (by rw [be_len]; exact hM.nats)
      rw [be_len] at hcv
      have HB := hide hM.bel
      clear hM
      go_wp2
      go_ret
      exact ⟨rfl, unhide HB⟩
    | succ m =>
      have hg : ((((m + 1 : Nat) : Int) - 1) ≥ 0) = True := by simp
      have hm1 : (((m + 1 : Nat) : Int) - 1) = (m : Int) := by omega
      have hc := hM.cell m (by omega)
      have hz := hM.fz m
      have hmb : m < 8 := by omega
      have HM := hide (hM.set m (C / 256 ^ (7 - m) % 256) hmb)
      have e1 : C / 256 ^ (7 - m) / 256 = C / 256 ^ (8 - m) := by
        rw [Nat.div_div_eq_div_mul, show 8 - m = 7 - m + 1 by omega, Nat.pow_succ]
      have e0 : 8 - (m + 1) = 7 - m := by omega
      rw [e0]
      have HL2 := hide (show C / 256 ^ (7 - m) < 18446744073709551616 from Nat.lt_of_le_of_lt (Nat.div_le_self _ _) (unhide HL))
      have HE := hide (show (C / 256 ^ (8 - m) : Nat) = C / 256 ^ (7 - m) / 256 from e1.symm)
      clear e1 e0 hM
      generalize hq : C / 256 ^ (7 - m) = q at *
      have hw1 : IntKind.u8.wrap (q : Int) = ((q % 256 : Nat) : Int) := by simp [IntKind.wrap, IntKind.bits, IntKind.signed]
      have hm2 : ((m : Int) < 8) = True := by simp; omega
      have HQ := hide hq
      clear hq
      generalize hr : q % 256 = r at *
      have HR := hide hr
      clear hr
      go_wp2
      refine ⟨⟨m, by rw [unhide HE]; simp, rfl, hide ⟨by omega, (unhide HM).ext fun j hj => ?_⟩⟩, by simp [RowKit.intOf]⟩
      by_cases e : j = m
      · rw [if_pos e, if_neg (by omega), e, unhide HQ, unhide HR]
      · rw [if_neg e]
        by_cases g : j < m
        · rw [if_pos g, if_pos (by omega)]
        · rw [if_neg g, if_neg (by omega)]

/-- What Parts tells. -/
def ptV (l : List UInt8) : Array Value := if l.length < 8 then #[.float .f64 0, .string (bs []), .int .i64 4] else if codeN (backN (unbe (l.take 8))) = unbe (l.take 8) then (if l.drop 8 = [] then #[.float .f64 0, .string (bs []), .int .i64 3] else #[.float .f64 (backN (unbe (l.take 8))), .string (bs (l.drop 8)), .int .i64 0]) else #[.float .f64 0, .string (bs []), .int .i64 3]
theorem bs_none (l : List UInt8) (h : l ≠ []) : ((bs l).toList == []) = false := by
  rw [bs_list]
  cases l with
  | nil => exact absurd rfl h
  | cons c l => rfl
end Go.Proofs.YtnfpccmnifhflabDoor
