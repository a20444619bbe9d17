/- order: scores as bytes. -/
import Derived.Test.YtnfpccmnifhflaaDoorOb
import Derived.Test.YtnfpccmnifhflaaDoorShelf
namespace Go.Proofs.YtnfpccmnifhflaaDoor
open Go.RowKit

theorem unbe_snoc (l : List UInt8) (k : Nat) (c : UInt8) (h : l[k]? = some c) : unbe (l.take (k + 1)) = unbe (l.take k) * 256 + c.toNat := by
  rw [List.take_add_one, h]
  unfold unbe
  rw [List.foldl_append]
  rfl
theorem or8 (x y : Nat) (hx : x < 72057594037927936) (hy : y < 256) : bits .or .u64 ((x : Int) * 256) (y : Int) = ((x * 256 + y : Nat) : Int) := by
  have e : (x : Int) * 256 = ((x * 256 : Nat) : Int) := by omega
  have h := Nat.two_pow_add_eq_or_of_lt (i := 8) (b := y) hy x
  rw [e, u64_or_nat _ _ (by omega) (by omega), Nat.mul_comm x 256, ← h]

theorem lead_ok (l : List UInt8) (h : 8 ≤ l.length) (w : World) : Calls Tryd.prog 34 #[.string (bs l)] w fun e w' => e = .returned (.int .u64 (unbe (l.take 8) : Nat)) ∧ w' = w := by
  have H := hide h
  clear h
  go_enter Tryd.func34, Tryd.ntmps34
  go_wp2_with fail
  go_loop [3, 4, 5] (fun a b i => ∃ k : Nat, a = .int .u64 (unbe (l.take k) : Nat) ∧ i = .int .i64 (k : Nat) ∧ Hid (k ≤ 8)) (fun _ _ i => 8 - (RowKit.intOf i).toNat)
  case atStart => exact ⟨0, rfl, rfl, hide (by omega)⟩
  case round =>
    obtain ⟨k, rfl, rfl, HK⟩ := hrel
    have hk := unhide HK
    by_cases h8 : k < 8
    · have h8' : ((k : Int) < 8) = True := by simp; omega
      have hl : k < l.length := by have := unhide H; omega
      have hc : l[k]? = some l[k] := List.getElem?_eq_getElem hl
      have hix := bs_ix l k l[k] hc
      have HS := hide (unbe_snoc l k l[k] hc)
      have hb := unbe_lt (l.take k)
      rw [List.length_take, Nat.min_eq_left (by omega)] at hb
      have hb2 : 256 ^ k ≤ 256 ^ 7 := Nat.pow_le_pow_right (by decide) (by omega)
      have hb3 : unbe (l.take k) < 72057594037927936 := Nat.lt_of_lt_of_le hb (by simpa using hb2)
      have hor := or8 (unbe (l.take k)) l[k].toNat hb3 l[k].toNat_lt
      have hw1 : IntKind.u64.wrap ((unbe (l.take k) : Int) * 256) = (unbe (l.take k) : Int) * 256 := by rw [IntKind.wrap_u64]; omega
      have hw2 : IntKind.u64.wrap ((l[k].toNat : Nat) : Int) = ((l[k].toNat : Nat) : Int) := by rw [IntKind.wrap_u64]; have := l[k].toNat_lt; omega
      rw [← unhide HS] at hor
      clear hb hb2 hb3 HS HK hc hk
      obtain ⟨y, hy⟩ : ∃ y, unbe (l.take (k + 1)) = y := ⟨_, rfl⟩
      rw [hy] at hor
      have HY := hide hy
      clear hy
      generalize unbe (l.take k) = x at *
      generalize l[k].toNat = z at *
      clear hl
      go_wp2
      exact ⟨⟨k + 1, by rw [unhide HY], by go_num, hide h8⟩, by simp [RowKit.intOf]; omega⟩
    · have h8' : ((k : Int) < 8) = False := by simp; omega
      obtain rfl : k = 8 := by omega
      go_wp2
      go_ret
      exact ⟨rfl, rfl⟩

/-- What the word at the front is told as. -/
theorem isCode_ok (c : Nat) (hc : c < 18446744073709551616) (w : World) : Calls Tryd.prog 33 #[.int .u64 c] w fun e w' => e = .returned (.bool (decide (codeN (backN c) = c))) ∧ w' = w := by
  have hb := backN_lt c hc
  have H : (((codeN (backN c) : Nat) : Int) == (c : Int)) = decide (codeN (backN c) = c) := by
    by_cases h : codeN (backN c) = c
    · rw [decide_eq_true h]; simp [h]
    · rw [decide_eq_false h]; simp; omega
  have hB := back_ok c hc
  have hC := code_ok (backN c) hb
  generalize decide (codeN (backN c) = c) = r at *
  generalize codeN (backN c) = y at *
  generalize backN c = x at *
  go_enter Tryd.func33, Tryd.ntmps33
  go_wp2_with (first | (go_at_call 35; refine (hB _).mono ?_; rintro e w' ⟨rfl, rfl⟩) | (go_at_call 30; refine (hC _).mono ?_; rintro e w' ⟨rfl, rfl⟩))
  go_ret
  exact ⟨rfl, rfl⟩
theorem clone_ok (l : List UInt8) (hl : l.length ≤ 281474976710656) (w : World) : Calls Tryd.prog 29 #[.string (bs l)] w fun e w' => e = .returned (.string (bs l)) ∧ Below w.heap.size w w' := by
  have hC := Tryd.stringslite_Clone (bs l)
  have hs : (bs l).size ≤ 281474976710656 := by rw [bs_size]; exact hl
  go_enter Tryd.func29, Tryd.ntmps29
  go_wp2_with (first | (go_at_call 40; refine (hC _ hs).mono ?_; rintro e w2 ⟨rfl, hB⟩))
  go_ret
  exact ⟨rfl, hB⟩
/-- What TakeScore tells. -/
def tsV (l : List UInt8) : Array Value := if l.length < 8 then #[.float .f64 0, .string (bs []), .int .i64 4] else if codeN (backN (unbe (l.take 8))) = unbe (l.take 8) then #[.float .f64 (backN (unbe (l.take 8))), .string (bs (l.drop 8)), .int .i64 0] else #[.float .f64 0, .string (bs []), .int .i64 3]
theorem unbe8 (l : List UInt8) : unbe (l.take 8) < 18446744073709551616 := by
  have h := unbe_lt (l.take 8)
  have h2 : 256 ^ (l.take 8).length ≤ 256 ^ 8 := Nat.pow_le_pow_right (by decide) (by rw [List.length_take]; omega)
  exact Nat.lt_of_lt_of_le h (by simpa using h2)
set_option maxRecDepth 100000 in
theorem takeScore_ok (l : List UInt8) (hl : l.length ≤ 281474976710656) (w : World) : Calls Tryd.prog 22 #[.string (bs l)] w fun e w' => e = .returned (.tuple (tsV l)) ∧ Below w.heap.size w w' := by
  have hsz := bs_size l
  by_cases h8 : l.length < 8
  · have HT := hide (show tsV l = #[.float .f64 0, .string (bs []), .int .i64 4] by unfold tsV; rw [if_pos h8])
    have h8' : ((l.length : Int) < 8) = True := by simp; omega
    go_enter Tryd.func22, Tryd.ntmps22
    go_wp2
    go_ret3
    exact ⟨by rw [unhide HT]; rfl, Below.refl _ _⟩
  · have h8' : ((l.length : Int) < 8) = False := by simp; omega
    have hL := lead_ok l (by omega)
    have hI := isCode_ok (unbe (l.take 8)) (unbe8 l)
    have hB := back_ok (unbe (l.take 8)) (unbe8 l)
    have hfr : ∀ w, (Instr.slice 9 (.string (bs l)) (some (.int .i64 8)) none none).run Tryd.prog w = .ok (.string (bs (l.drop 8))) w := bs_from l 8 .i64 (by omega)
    have hC := clone_ok (l.drop 8) (by rw [List.length_drop]; omega)
    by_cases hc : codeN (backN (unbe (l.take 8))) = unbe (l.take 8)
    · have HT := hide (show tsV l = #[.float .f64 (backN (unbe (l.take 8))), .string (bs (l.drop 8)), .int .i64 0] by unfold tsV; rw [if_neg h8, if_pos hc])
      rw [decide_eq_true hc] at hI
      clear hc
      generalize backN (unbe (l.take 8)) = x at *
      generalize unbe (l.take 8) = c at *
      generalize l.drop 8 = r at *
      go_enter Tryd.func22, Tryd.ntmps22
      go_wp2_with (first | (go_at_call 34; refine (hL _).mono ?_; rintro e w' ⟨rfl, rfl⟩) | (go_at_call 33; refine (hI _).mono ?_; rintro e w' ⟨rfl, rfl⟩))
      refine region_tailP 5 (by kernel_rfl) (by kernel_rfl) ?_
      simp only [List.take, List.drop]
      repeat (go_big_quiet_step (first | (go_at_call 34; exact Calls.quiet_of_same (hL _)) | (go_at_call 35; exact Calls.quiet_of_same (hB _))))
      refine wpQuiet_nil ?_
      rintro _ ⟨nq, rfl⟩
      go_wp2_with (first | (go_at_call 29; refine (hC _).mono ?_; rintro e w2 ⟨rfl, hB2⟩))
      go_ret3
      exact ⟨by rw [unhide HT]; rfl, (Below.drewN' (Below.refl _ _) nq).trans hB2⟩
    · have HT := hide (show tsV l = #[.float .f64 0, .string (bs []), .int .i64 3] by unfold tsV; rw [if_neg h8, if_neg hc])
      rw [decide_eq_false hc] at hI
      clear hc
      go_enter Tryd.func22, Tryd.ntmps22
      go_wp2_with (first | (go_at_call 34; refine (hL _).mono ?_; rintro e w' ⟨rfl, rfl⟩) | (go_at_call 33; refine (hI _).mono ?_; rintro e w' ⟨rfl, rfl⟩))
      go_ret3
      exact ⟨by rw [unhide HT]; rfl, Below.refl _ _⟩

theorem be_get : ∀ (k c j : Nat), j < k → (be k c)[j]? = some (UInt8.ofNat (c / 256 ^ (k - 1 - j)))
  | 0, _, _, h => by omega
  | k + 1, c, 0, _ => by simp [be]
  | k + 1, c, j + 1, h => by
    rw [be, List.getElem?_cons_succ, be_get k c j (by omega)]
    congr 4
    omega
theorem codeLt (x : Nat) (h : x < 18446744073709551616) : codeN x < 256 ^ 8 := by
  have := codeN_lt x h
  simpa using this
theorem alloc_mem (w : World) (t : TypeId) : Mem .u8 w w.heap.size 8 (fun _ => 0) (w.alloc (.cells #[.int .u8 0, .int .u8 0, .int .u8 0, .int .u8 0, .int .u8 0, .int .u8 0, .int .u8 0, .int .u8 0] t)) := by
  refine ⟨fun i hi => ?_, fun i => by simp, (Below.refl _ w).alloc (Nat.le_refl _) _, Nat.le_refl _⟩
  rcases i with _ | _ | _ | _ | _ | _ | _ | _ | i
  all_goals first | (exfalso; omega) | simp
set_option maxRecDepth 100000 in
theorem score_ok (x : Nat) (hx : x < 18446744073709551616) (w : World) : Calls Tryd.prog 15 #[.float .f64 x] w fun e w' => e = .returned (.string (bs (be 8 (codeN x)))) ∧ Below w.heap.size w w' := by
  have hC := code_ok x hx
  have HL := hide (codeN_lt x hx)
  generalize codeN x = C at *
  have hst := fun (w : World) (a : Addr) (x : Int) (m : Mode) => run_store Tryd.prog w a (.int .u8 x) m rfl
  go_enter Tryd.func15, Tryd.ntmps15
  go_wp2_with (first | (go_at_call 30; refine (hC _).mono ?_; rintro e w' ⟨rfl, rfl⟩))
  go_loopw [3, 5] (fun a i wr => ∃ k : Nat, a = .int .u64 (C / 256 ^ (8 - k) : Nat) ∧ i = .int .i64 ((k : Int) - 1) ∧ Hid (k ≤ 8 ∧ Mem .u8 w' w'.heap.size 8 (fun j => if j < k then 0 else C / 256 ^ (7 - j) % 256) wr)) (fun _ i _ => (RowKit.intOf i + 1).toNat)
  case atStart => exact ⟨8, by simp, by simp, hide ⟨Nat.le_refl _, (alloc_mem w' 53).ext fun i hi => by rw [if_pos hi]⟩⟩
  case round =>
    obtain ⟨k, rfl, rfl, HK⟩ := hrel
    obtain ⟨hk, hM⟩ := unhide HK
    clear HK
    cases k with
    | zero =>
      have hg : ((((0 : Nat) : Int) - 1) ≥ 0) = False := by simp
      have hcv := conv_nats wr (some ⟨w'.heap.size, 0, none⟩) 8 (be 8 C) (fun j => if j < 0 then 0 else C / 256 ^ (7 - j) % 256) (fun i c h => by
        have hi : i < 8 := by have := (List.getElem?_eq_some_iff.1 h).1; rwa [be_len] at this
        rw [be_get 8 C i hi] at h
        obtain rfl := Option.some.inj h
        simp) (by rw [be_len]; exact hM.nats)
      rw [be_len] at hcv
      have HB := hide hM.bel
      clear hM
      go_wp2
      go_ret
      exact ⟨rfl, unhide HB⟩
    | succ m =>
      have hg : ((((m + 1 : Nat) : Int) - 1) ≥ 0) = True := by simp
      have hm1 : (((m + 1 : Nat) : Int) - 1) = (m : Int) := by omega
      have hc := hM.cell m (by omega)
      have hz := hM.fz m
      have hmb : m < 8 := by omega
      have HM := hide (hM.set m (C / 256 ^ (7 - m) % 256) hmb)
      have e1 : C / 256 ^ (7 - m) / 256 = C / 256 ^ (8 - m) := by
        rw [Nat.div_div_eq_div_mul, show 8 - m = 7 - m + 1 by omega, Nat.pow_succ]
      have e0 : 8 - (m + 1) = 7 - m := by omega
      rw [e0]
      have HL2 := hide (show C / 256 ^ (7 - m) < 18446744073709551616 from Nat.lt_of_le_of_lt (Nat.div_le_self _ _) (unhide HL))
      have HE := hide (show (C / 256 ^ (8 - m) : Nat) = C / 256 ^ (7 - m) / 256 from e1.symm)
      clear e1 e0 hM
      generalize hq : C / 256 ^ (7 - m) = q at *
      have hw1 : IntKind.u8.wrap (q : Int) = ((q % 256 : Nat) : Int) := by simp [IntKind.wrap, IntKind.bits, IntKind.signed]
      have hm2 : ((m : Int) < 8) = True := by simp; omega
      have HQ := hide hq
      clear hq
      generalize hr : q % 256 = r at *
      have HR := hide hr
      clear hr
      go_wp2
      refine ⟨⟨m, by rw [unhide HE]; simp, rfl, hide ⟨by omega, (unhide HM).ext fun j hj => ?_⟩⟩, by simp [RowKit.intOf]⟩
      by_cases e : j = m
      · rw [if_pos e, if_neg (by omega), e, unhide HQ, unhide HR]
      · rw [if_neg e]
        by_cases g : j < m
        · rw [if_pos g, if_pos (by omega)]
        · rw [if_neg g, if_neg (by omega)]

theorem key_ok (x : Nat) (hx : x < 18446744073709551616) (l : List UInt8) (hl : l.length ≤ 281474976710656) (w : World) : Calls Tryd.prog 16 #[.float .f64 x, .string (bs l)] w fun e w' => e = .returned (.string (bs (be 8 (codeN x) ++ l))) ∧ Below w.heap.size w w' := by
  have hS := score_ok x hx
  have hadd := bs_add (be 8 (codeN x)) l (by rw [be_len]; omega)
  generalize codeN x = C at *
  go_enter Tryd.func16, Tryd.ntmps16
  go_wp2_with (first | (go_at_call 15; refine (hS _).mono ?_; rintro e w2 ⟨rfl, hB⟩))
  go_ret
  exact ⟨rfl, hB⟩

/-- What Parts tells. -/
def ptV (l : List UInt8) : Array Value := if l.length < 8 then #[.float .f64 0, .string (bs []), .int .i64 4] else if codeN (backN (unbe (l.take 8))) = unbe (l.take 8) then (if l.drop 8 = [] then #[.float .f64 0, .string (bs []), .int .i64 3] else #[.float .f64 (backN (unbe (l.take 8))), .string (bs (l.drop 8)), .int .i64 0]) else #[.float .f64 0, .string (bs []), .int .i64 3]
theorem bs_none (l : List UInt8) (h : l ≠ []) : ((bs l).toList == []) = false := by
  rw [bs_list]
  cases l with
  | nil => exact absurd rfl h
  | cons c l => rfl
set_option maxRecDepth 100000 in
theorem parts_ok (l : List UInt8) (hl : l.length ≤ 281474976710656) (w : World) : Calls Tryd.prog 18 #[.string (bs l)] w fun e w' => e = .returned (.tuple (ptV l)) ∧ Below w.heap.size w w' := by
  have hT := takeScore_ok l hl
  unfold tsV at hT
  unfold ptV
  by_cases h8 : l.length < 8
  · rw [if_pos h8] at hT ⊢
    clear h8
    go_enter Tryd.func18, Tryd.ntmps18
    go_wp2_with (first | (go_at_call 22; refine (hT _).mono ?_; rintro e w2 ⟨rfl, hB⟩))
    go_ret3
    exact ⟨rfl, hB⟩
  · rw [if_neg h8] at hT ⊢
    by_cases hc : codeN (backN (unbe (l.take 8))) = unbe (l.take 8)
    · rw [if_pos hc] at hT ⊢
      by_cases h0 : l.drop 8 = []
      · rw [if_pos h0]
        rw [h0] at hT
        clear hc h0 h8
        generalize backN (unbe (l.take 8)) = x at *
        have he : (bs []).toList.isEmpty = true := by rw [bs_list]; rfl
        go_enter Tryd.func18, Tryd.ntmps18
        go_wp2_with (first | (go_at_call 22; refine (hT _).mono ?_; rintro e w2 ⟨rfl, hB⟩))
        go_ret3
        exact ⟨rfl, hB⟩
      · rw [if_neg h0]
        have he : (bs (l.drop 8)).toList.isEmpty = false := by
          rw [bs_list]
          cases h : l.drop 8 with
          | nil => exact absurd h h0
          | cons c l => rfl
        clear hc h0 h8
        generalize backN (unbe (l.take 8)) = x at *
        generalize l.drop 8 = r at *
        go_enter Tryd.func18, Tryd.ntmps18
        go_wp2_with (first | (go_at_call 22; refine (hT _).mono ?_; rintro e w2 ⟨rfl, hB⟩))
        go_ret3
        exact ⟨rfl, hB⟩
    · rw [if_neg hc] at hT ⊢
      clear hc h8
      go_enter Tryd.func18, Tryd.ntmps18
      go_wp2_with (first | (go_at_call 22; refine (hT _).mono ?_; rintro e w2 ⟨rfl, hB⟩))
      go_ret3
      exact ⟨rfl, hB⟩
end Go.Proofs.YtnfpccmnifhflaaDoor
