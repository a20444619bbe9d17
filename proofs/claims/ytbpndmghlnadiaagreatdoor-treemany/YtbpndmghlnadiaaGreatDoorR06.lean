/- Joined: Pk Ow Up Pq. -/
import Derived.Test.YtbpndmghlnadiaaGreatDoorR05
namespace Go.Proofs.YtbpndmghlnadiaaGreatDoor
open Go.RowKit
set_option maxHeartbeats 4000000
def wordN (b : Nat -> Nat) : Nat -> Nat -> Nat
 | 0, _ => 0
 | i + 1, j => if i / 8 = j then wordN b i j ||| b i * 2 ^ (8 * (i % 8)) else wordN b i j
theorem word_succ (b : Nat -> Nat) (i j : Nat) : wordN b (i + 1) j = if i / 8 = j then wordN b i j ||| b i * 2 ^ (8 * (i % 8)) else wordN b i j := rfl
theorem word_bit (b : Nat -> Nat) (n j m : Nat) (hb : ∀ i, i < n -> b i < 256) : (wordN b n j).testBit m = (decide (m < 64 /\ 8 * j + m / 8 < n) && (b (8 * j + m / 8)).testBit (m % 8)) := by
 induction n with
 | zero => simp [wordN]
 | succ i ih =>
  have ih := ih fun k hk => hb k (by omega)
  unfold wordN
  by_cases hj : i / 8 = j
  ·rw [if_pos hj, Nat.testBit_or, ih, Nat.testBit_mul_two_pow]
   by_cases hm : m < 64 /\ 8 * j + m / 8 = i
   ·have e1 : m - 8 * (i % 8) = m % 8 := by omega
    have e2 : 8 * (i % 8) <= m := by omega
    have e3 : ¬ (m < 64 /\ 8 * j + m / 8 < i) := by omega
    have e4 : m < 64 /\ 8 * j + m / 8 < i + 1 := by omega
    rw [decide_eq_false e3, decide_eq_true e4, decide_eq_true e2, e1, hm.2]; simp
   ·have h0 : (decide (8 * (i % 8) <= m) && (b i).testBit (m - 8 * (i % 8))) = false := by
     by_cases e2 : 8 * (i % 8) <= m
     ·have : 8 <= m - 8 * (i % 8) := by omega
      rw [Nat.testBit_lt_two_pow (Nat.lt_of_lt_of_le (hb i (by omega)) (Nat.pow_le_pow_right (n := 2) (by decide) this))]; simp
     ·simp [e2]
    rw [h0, Bool.or_false]
    have e3 : (m < 64 /\ 8 * j + m / 8 < i) ↔ (m < 64 /\ 8 * j + m / 8 < i + 1) := by omega
    rw [decide_eq_decide.2 e3]
  ·rw [if_neg hj, ih]
   have e3 : (m < 64 /\ 8 * j + m / 8 < i) ↔ (m < 64 /\ 8 * j + m / 8 < i + 1) := by omega
   rw [decide_eq_decide.2 e3]
theorem word_lt (b : Nat -> Nat) (n j : Nat) (hb : ∀ i, i < n -> b i < 256) : wordN b n j < 18446744073709551616 :=
 Nat.lt_pow_two_of_testBit (n := 64) _ fun i hi => by rw [word_bit b n j i hb, decide_eq_false (by omega)]; rfl
def need (n : Nat) : Nat := 1 + (n + 7) / 8
def packF (b : Nat -> Nat) (n j : Nat) : Nat := if j = 0 then n else wordN b n (j - 1)
def packI (b : Nat -> Nat) (n i j : Nat) : Nat := if j = 0 then n else wordN b i (j - 1)
theorem shift_ok (i : Nat) (hi : i < 1000000) (w : World) : Calls Tryz.prog 185 #[.int .i64 i] w fun e w' => e = .returned (.int .i64 ((8 * (i % 8) : Nat) : Int)) /\ w' = w := by
 go_enter Tryz.func185, Tryz.ntmps185
 go_wp2
 go_ret
 refine ⟨?_, rfl⟩
 show Ending.returned (.int .i64 (8 * ((i : Int) % 8))) = _
 rw [show (8 * ((i : Int) % 8)) = ((8 * (i % 8) : Nat) : Int) by omega]
theorem wneed_ok (n : Nat) (hn : n < 1000000) (w : World) : Calls Tryz.prog 136 #[.int .i64 n] w fun e w' => e = .returned (.int .i64 (need n : Nat)) /\ w' = w := by
 by_cases h : n = 0
 ·subst h
  go_enter Tryz.func136, Tryz.ntmps136
  go_wp2
  go_ret
  exact ⟨rfl, rfl⟩
 ·have h' : ¬ (n : Int) < 1 := by omega
  go_enter Tryz.func136, Tryz.ntmps136
  go_wp2
  go_ret
  refine ⟨?_, rfl⟩
  show Ending.returned (.int .i64 (2 + ((n : Int) - 1) / 8)) = _
  rw [show (2 + ((n : Int) - 1) / 8) = (need n : Nat) by unfold need; omega]
theorem infoU : (Tryz.prog.info? 27).map (fun i => (i.zero, i.size, i.bytes)) = some (some (.int .u64 0), 1, 8) := by kernel_rfl
theorem infoB : (Tryz.prog.info? 5).map (fun i => (i.zero, i.size, i.bytes)) = some (some (.int .u8 0), 1, 1) := by kernel_rfl
theorem make_mem (k : IntKind) (w : World) (n : Nat) (t : TypeId) : Mem k w w.heap.size n (fun _ => 0) (w.alloc (.cells (madeCells #[.int k 0] n) t)) := by
 have h := World.rowIs_made w (.int k 0) n t
 exact ⟨fun i hi => h.cell hi, h.frozen, (Below.refl _ w).alloc (Nat.le_refl _) _, Nat.le_refl _⟩
theorem make_u64s (n : Nat) (hn : n <= 1000000) (w : World) : ∃ w', (Instr.makeSlice 128 (.int .i64 (n : Int)) (.int .i64 (n : Int))).run Tryz.prog w = .ok (.slice (some ⟨w.heap.size, 0, none⟩) n n) w' /\ Mem .u64 w w.heap.size n (fun _ => 0) w' :=
 ⟨_, run_make_row' 128 27 (.int .u64 0) 8 Tryz.underlying128 infoU rfl .i64 .i64 n (by omega) (by omega) w, make_mem _ _ _ _⟩
theorem make_bytes (n : Nat) (hn : n <= 1000000) (w : World) : ∃ w', (Instr.makeSlice 80 (.int .i64 (n : Int)) (.int .i64 (n : Int))).run Tryz.prog w = .ok (.slice (some ⟨w.heap.size, 0, none⟩) n n) w' /\ Mem .u8 w w.heap.size n (fun _ => 0) w' :=
 ⟨_, run_make_row' 80 5 (.int .u8 0) 1 Tryz.underlying80 infoB rfl .i64 .i64 n (by omega) (by omega) w, make_mem _ _ _ _⟩
theorem shl_nat (y s : Nat) (hy : y < 256) (hs : s <= 56) : y * 2 ^ s < 18446744073709551616 := by
 have h : 2 ^ s <= 2 ^ 56 := Nat.pow_le_pow_right (by decide) hs
 have := Nat.mul_le_mul (show y <= 255 by omega) h
 omega
theorem shl_wrap (y s : Nat) (hy : y < 256) (hs : s <= 56) : IntKind.u64.wrap ((y : Int) * 2 ^ s) = ((y * 2 ^ s : Nat) : Int) := by
 have h := shl_nat y s hy hs
 have e : (y : Int) * 2 ^ s = ((y * 2 ^ s : Nat) : Int) := by rw [Int.natCast_mul, Int.natCast_pow]; rfl
 rw [e, IntKind.wrap_u64]
 omega
theorem or_shl (q y s : Nat) (hq : q < 18446744073709551616) (hy : y < 256) (hs : s <= 56) : bits .or .u64 (q : Int) (IntKind.u64.wrap ((y : Int) * 2 ^ s)) = ((q ||| y * 2 ^ s : Nat) : Int) := by
 rw [shl_wrap y s hy hs, u64_or_nat _ _ hq (shl_nat y s hy hs)]
set_option maxRecDepth 100000 in
theorem pack_ok (a : Option Addr) (len cap : Nat) (b : Nat -> Nat) (w : World) (hN : Nats .u8 w a len b) (hb : ∀ i, i < len -> b i < 256) (hl : len <= 100000) :
  Calls Tryz.prog 159 #[.slice a len cap] w fun e w' => e = .returned (.slice (some ⟨w.heap.size, 0, none⟩) (need len) (need len)) /\ Mem .u64 w w.heap.size (need len) (packF b len) w' := by
 have HN := Hd hN
 have HB := Hd hb
 have KS := Hd shift_ok
 have KN := Hd (wneed_ok len (by omega) w)
 obtain ⟨w1, hm, hM⟩ := make_u64s (need len) (by unfold need; omega) w
 have HM := Hd hM
 have c0 := hM.cell 0 (by unfold need; omega)
 have z0 := hM.fz 0
 have h0 : 0 < need len := by unfold need; omega
 have HNE := Hd (show need len = 1 + (len + 7) / 8 from rfl)
 have HF := Hd (show ∀ j, packI b len 0 j = if j = 0 then len else 0 from fun j => rfl)
 clear hN hb hM
 generalize need len = m at *
 go_enter Tryz.func159, Tryz.ntmps159
 go_wp2_with fail
 refine (uh KN).mono ?_
 rintro e w' ⟨rfl, h⟩; rw [h]; clear h w'
 go_wp2_with fail
 go_loopw [17] (fun vi wr => ∃ k : Nat, vi = .int .i64 k /\ Hid (k <= len /\ Mem .u64 w w.heap.size m (packI b len k) wr)) (fun vi wr => len - (RowKit.intOf vi).toNat)
 case atStart => exact ⟨0, rfl, Hd ⟨Nat.zero_le _, ((uh HM).set 0 len h0).ext fun i _ => (uh HF i).symm⟩⟩
 case round =>
  obtain ⟨k, rfl, HI⟩ := hrel
  obtain ⟨hk, hM⟩ := uh HI
  by_cases hlt : k < len
  ·have hlt' : (k : Int) < len := by omega
   obtain ⟨xb, xo, rfl, c⟩ := (uh HN).on hM.bel k hlt
   have hby := uh HB k hlt
   have hp : 1 + k / 8 < m := by have := uh HNE; omega
   have c1 := hM.cell (1 + k / 8) hp
   have z1 := hM.fz (1 + k / 8)
   have KS1 := Hd (uh KS k (by omega))
   clear HI
   have HM1 := Hd hM
   clear hM
   have hq : packI b len k (1 + k / 8) < 18446744073709551616 := by
    unfold packI
    rw [if_neg (by omega)]
    exact word_lt _ _ _ fun i hi => uh HB i (by omega)
   have HV := Hd (show packI b len k (1 + k / 8) = wordN b k (k / 8) by unfold packI; rw [if_neg (by omega)]; simp)
   generalize hpq : packI b len k (1 + k / 8) = q at *
   clear hpq
   generalize hbk : b k = y at *
   have HBK := Hd hbk
   clear hbk
   go_wp2_with fail
   refine region_tailP 13 (by kernel_rfl) (by kernel_rfl) ?_
   simp only [List.take, List.drop]
   repeat (go_big_quiet_step (first | (go_at_call 185; exact Calls.quiet_of_same (uh KS1 _))))
   refine wpQuiet_nil ?_
   rintro _ ⟨nq, rfl⟩
   rw [or_shl q y (8 * (k % 8)) hq hby (by omega)]
   have HNX := Hd (show ∀ i, (if i = 1 + k / 8 then (q ||| y * 2 ^ (8 * (k % 8))) else packI b len k i) = packI b len (k + 1) i by
    intro i
    have e1 := uh HV; have e2 := uh HBK
    unfold packI
    by_cases hi : i = 0
    ·subst hi; rw [if_neg (by omega)]; simp
    ·rw [if_neg hi, if_neg hi, word_succ]
     by_cases h2 : i = 1 + k / 8
     ·rw [if_pos h2, if_pos (by omega), h2, e1, e2]; simp
     ·rw [if_neg h2, if_neg (by omega)])
   have HM2 := Hd (((uh HM1).drewN nq).set (1 + k / 8) (q ||| y * 2 ^ (8 * (k % 8))) hp)
   generalize (q ||| y * 2 ^ (8 * (k % 8))) = v at *
   generalize hwd : wr.drewN nq = wd at *
   have c2 : wd.cell? ⟨w.heap.size, 1 + k / 8, none⟩ = some (.int .u64 q) := by rw [<- hwd]; exact c1
   have z2 : wd.frozen? ⟨w.heap.size, 1 + k / 8, none⟩ = false := by rw [<- hwd]; exact z1
   clear c1 z1 c hwd hm
   go_wp2
   go_roundw
   case rel => exact ⟨k + 1, by go_num, Hd ⟨by omega, (uh HM2).ext fun i _ => uh HNX i⟩⟩
   case measure => simp [RowKit.intOf]; omega
  ·have hlt' : ¬ (k : Int) < len := by omega
   obtain rfl : k = len := by omega
   clear HI
   have HM1 := Hd hM
   clear hM
   go_wp2
   go_ret
   exact ⟨rfl, uh HM1⟩
abbrev vals (k : IntKind) (l : List Nat) : List Value := l.map fun n => Value.int k (n : Nat)
def OwnL (k : IntKind) (t : TypeId) (w : World) (base : Nat) (v : Value) (l : List Nat) : Prop := w.ownsRow base t 1 v l.length (vals k l)
def rowL (f : Nat -> Nat) (n : Nat) : List Nat := (List.range n).map f
theorem rowL_len (f : Nat -> Nat) (n : Nat) : (rowL f n).length = n := by simp [rowL]
theorem rowL_get (f : Nat -> Nat) (n i : Nat) (h : i < n) : (rowL f n).getD i 0 = f i := by simp [rowL, h]
theorem OwnL.nil (k : IntKind) (t : TypeId) (w : World) (base : Nat) : OwnL k t w base (.slice none 0 0) [] := World.ownsRow_nil _ _ _ _
theorem OwnL.empty (k : IntKind) (t : TypeId) (w : World) : OwnL k t (w.alloc (.cells #[] t)) w.heap.size (.slice (some ⟨w.heap.size, 0, none⟩) 0 0) [] :=
 ⟨rfl, .inr ⟨w.heap.size, 0, #[], rfl, Nat.le_refl _, heap_alloc_new w _, Nat.le_refl _, by unfold maxLen; omega, rfl, rfl⟩⟩
theorem OwnL.one (k : IntKind) (t : TypeId) (w : World) (x : Nat) : OwnL k t (w.alloc (.cells #[.int k (x : Nat)] t)) w.heap.size (.slice (some ⟨w.heap.size, 0, none⟩) 1 1) [x] :=
 ⟨rfl, .inr ⟨w.heap.size, 1, #[.int k (x : Nat)], rfl, Nat.le_refl _, heap_alloc_new w _, Nat.le_refl _, by unfold maxLen; omega, rfl, rfl⟩⟩
theorem OwnL.below {k : IntKind} {t : TypeId} {w w' : World} {base base' : Nat} {v : Value} {l : List Nat} (h : OwnL k t w base v l) (b : Below base' w w') (hb : w.heap.size <= base') : OwnL k t w' base v l := by
 refine ⟨h.1, ?_⟩
 rcases h.2 with hn | ⟨g, cap, cur, hv, hg, hgg, rest⟩
 ·exact .inl hn
 ·exact .inr ⟨g, cap, cur, hv, hg, (b.block g (Nat.lt_of_lt_of_le (Array.getElem?_eq_some_iff.1 hgg).1 hb)).trans hgg, rest⟩
theorem OwnL.drewN {k : IntKind} {t : TypeId} {w : World} {base : Nat} {v : Value} {l : List Nat} (h : OwnL k t w base v l) (n : Nat) : OwnL k t (w.drewN n) base v l := h
theorem OwnL.form {k : IntKind} {t : TypeId} {w : World} {base : Nat} {v : Value} {l : List Nat} (h : OwnL k t w base v l) : (v = .slice none 0 0 /\ l = []) \/
  ∃ g cap, v = .slice (some ⟨g, 0, none⟩) l.length cap /\ l.length <= cap /\ base <= g /\ g < w.heap.size /\ (∀ i, i < l.length -> w.cell? ⟨g, i, none⟩ = some (.int k (l.getD i 0 : Nat))) /\ ∀ i, w.frozen? ⟨g, i, none⟩ = false := by
 rcases h.2 with ⟨hv, hn⟩ | ⟨g, cap, cur, hv, hb, hg, hc, _, hs, hcur⟩
 ·exact .inl ⟨hv, List.length_eq_zero_iff.1 hn⟩
 ·refine .inr ⟨g, cap, hv, hc, hb, (Array.getElem?_eq_some_iff.1 hg).1, fun i hi => ?_, fun i => ?_⟩
  ·have h1 : w.ownsRow base t 1 (.slice (some ⟨g, 0, none⟩) l.length cap) l.length (vals k l) := hv ▸ h
   rw [h1.cellAt i (by omega)]
   simp [vals, hi]
  ·simp [World.frozen?, hg]
theorem OwnL.nats {k : IntKind} {t : TypeId} {w : World} {base : Nat} {v : Value} {l : List Nat} (h : OwnL k t w base v l) : ∃ va cap, v = .slice va l.length cap /\ l.length <= cap /\ Nats k w va l.length (fun i => l.getD i 0) := by
 rcases h.form with ⟨hv, hn⟩ | ⟨g, cap, hv, hc, _, _, hcell, _⟩
 ·subst hn; exact ⟨none, 0, hv, Nat.le_refl _, fun i hi => by simp at hi⟩
 ·exact ⟨some ⟨g, 0, none⟩, cap, hv, hc, fun i hi => ⟨g, 0, rfl, by rw [Nat.zero_add]; exact hcell i hi⟩⟩
theorem OwnL.set {k : IntKind} {t : TypeId} {w : World} {base g n cap : Nat} {l : List Nat} (h : OwnL k t w base (.slice (some ⟨g, 0, none⟩) n cap) l) (i x : Nat) :
  OwnL k t (w.setCell ⟨g, i, none⟩ (.int k (x : Nat))) base (.slice (some ⟨g, 0, none⟩) n cap) (l.set i x) := by
 refine ⟨by simp [vals], ?_⟩
 rcases h.2 with ⟨hv, hn⟩ | ⟨g', cap', cur, hv, hb, hg, hc, hm, hs, hcur⟩
 ·cases hv
 ·injection hv with hv1 hv2 hv3
  injection hv1 with hv1
  injection hv1 with hv1
  subst hv1; subst hv2; subst hv3
  refine .inr ⟨g, cap, cur.setIfInBounds i (.int k (x : Nat)), by simp, hb, ?_, by simpa using hc, hm, by simpa using hs, ?_⟩
  ·simp [World.setCell, Array.getElem?_modify, hg]
  ·simp only [Nat.mul_one, List.length_set] at *
   rw [Array.toList_setIfInBounds, List.take_set, hcur]
   simp [vals, List.map_set]
structure More (k : IntKind) (t : TypeId) (w : World) (base : Nat) (v' : Value) (l : List Nat) (w' : World) : Prop where
 own : OwnL k t w' base v' l
 bel : Below base w w'
theorem append_row {k : IntKind} {et st : TypeId} {bytes : Nat} (hinfo : (Tryz.prog.info? et).map (fun i => (i.zero, i.size, i.bytes)) = some (some (.int k 0), 1, bytes)) (hbb : bytes <= 8) (hun : Tryz.prog.underlying st = some (.slice et))
  {ops : Array Oper} {rest : List Oper} {o : Oper} {a : Act} {Q : Exit -> Act -> World -> Prop} (w : World) (hgd : o.guard = none) (s x : Operand)
  (ho : o.op = .call { callee := .builtin .append, args := #[s, x], argTypes := #[st, st] }) (base : Nat) (v : Value) (l : List Nat)
  (hs : a.eval s = v) (hown : OwnL k et w base v l) (xa : Option Addr) (xl xc : Nat) (f : Nat -> Nat) (hx : a.eval x = .slice xa xl xc) (hxc : xa = none -> xl = 0 /\ xc = 0) (hN : Nats k w xa xl f) (hl : l.length + xl <= 1000000) (hbase : base <= w.heap.size)
  (h : ∀ v' w', More k et w base v' (l ++ rowL f xl) w' -> wpList Tryz.prog ops Q rest (a.put o.dst v') w') :
  wpList Tryz.prog ops Q (o :: rest) a w := by
 obtain ⟨i, hi, hzz⟩ := Option.map_eq_some_iff.1 hinfo
 simp only [Prod.mk.injEq] at hzz
 obtain ⟨hz, hsize, hby⟩ := hzz
 have own_lt : ∀ g, v.ownBlock = some g -> base <= g := fun g hg => (hown.lt g hg).1
 cases xa with
 | none =>
  obtain ⟨e1, e2⟩ := hxc rfl
  subst e1; subst e2
  refine wpList_append_own_none hgd s x st ho base et i 1 hun hi v _ _ hs hown hx ?_
  exact h _ _ ⟨by simpa [rowL] using hown, Below.refl _ _⟩
 | some ad =>
  refine wpList_append_own_at _ hgd s x st ho base et i (.int k 0) 1 bytes hun hi hz hsize hby rfl (by decide) v l.length _ hs hown ad xl xc (vals k (rowL f xl)) hx (by simp [rowL]) ?_ ?_ ?_ ?_ hbase ?_
  ·intro j u hu
   have hj : j < xl := by have := (List.getElem?_eq_some_iff.1 hu).1; simpa [rowL] using this
   obtain ⟨xb, xo, e, c⟩ := hN j hj
   cases e
   have hadd : (⟨xb, xo, none⟩ : Addr).add j = ⟨xb, xo + j, none⟩ := by unfold Addr.add; split <;> simp_all
   rw [hadd, c, <- hu]
   simp [rowL, hj]
  ·intro u hu; simp at hu; obtain ⟨_, _, rfl⟩ := hu; rfl
  ·unfold maxLen; omega
  ·have : (l.length + xl) * bytes <= 1000000 * 8 := Nat.mul_le_mul hl hbb
   omega
  ·intro v' w' h1 h2 _ _
   refine h v' w' ⟨?_, (Below.refl base w).grown h2 hbase own_lt⟩
   have : OwnL k et w' base v' (l ++ rowL f xl) := by
    unfold OwnL
    rw [List.length_append, rowL_len, vals, List.map_append]
    exact h1
   exact this
theorem append_u8 {ops : Array Oper} {rest : List Oper} {o : Oper} {a : Act} {Q : Exit -> Act -> World -> Prop} (w : World) (hgd : o.guard = none) (s x : Operand)
  (ho : o.op = .call { callee := .builtin .append, args := #[s, x], argTypes := #[80, 80] }) (base : Nat) (v : Value) (l : List Nat) (y : Nat)
  (hs : a.eval s = v) (hown : OwnL .u8 5 w base v l) (hx : a.eval x = .slice (some ⟨w.heap.size, 0, none⟩) 1 1) (hl : l.length + 1 <= 1000000) (hbase : base <= w.heap.size)
  (h : ∀ v' w', More .u8 5 w base v' (l ++ [y]) w' -> wpList Tryz.prog ops Q rest (a.put o.dst v') w') :
  wpList Tryz.prog ops Q (o :: rest) a (w.alloc (.cells #[.int .u8 (y : Nat)] 5)) := by
 have b0 : Below w.heap.size w (w.alloc (.cells #[.int .u8 (y : Nat)] 5)) := (Below.refl _ w).alloc (Nat.le_refl _) _
 refine append_row infoB (by decide) Tryz.underlying80 _ hgd s x ho base v l hs (hown.below b0 (Nat.le_refl _)) _ 1 1 (fun _ => y) hx (fun e => by cases e) ?_ hl (by simp; omega) ?_
 ·intro i hi
  obtain rfl : i = 0 := by omega
  refine ⟨_, _, rfl, ?_⟩
  simp
 ·intro v' w' hm
  exact h v' w' ⟨by simpa [rowL] using hm.own, (b0.mono hbase).trans hm.bel⟩
def byteF (v : Nat -> Nat) (i : Nat) : Nat := v (1 + i / 8) / 2 ^ (8 * (i % 8)) % 256
def over (v : Nat -> Nat) (m n : Nat) : Bool := decide (0 < n % 8) && decide (0 < v (m - 1) / 2 ^ (8 * (n % 8)))
def unE (v : Nat -> Nat) (m : Nat) : Nat := if m = 0 then 4 else if 65536 < v 0 then 3 else if m < need (v 0) then 4 else if need (v 0) < m \/ over v m (v 0) = true then 3 else 0
theorem shr_nat (s k : Nat) : (s : Int) / 2 ^ k = ((s / 2 ^ k : Nat) : Int) := by
 rw [Int.natCast_ediv, Int.natCast_pow]; rfl
set_option maxRecDepth 100000 in
theorem filled_ok (a : Option Addr) (m cap : Nat) (v : Nat -> Nat) (n : Nat) (w : World) (hN : Nats .u64 w a m v) (hn : n <= 65536) (hm : 0 < m) (hmm : m <= 100000) :
  Calls Tryz.prog 190 #[.slice a m cap, .int .i64 n] w fun e w' => e = .returned (.bool (over v m n)) /\ ∃ q, w' = w.drewN q := by
 obtain ⟨xb, xo, rfl, c⟩ := hN (m - 1) (by omega)
 have KS := Hd (shift_ok n (by omega))
 by_cases h : 0 < n % 8
 ·have h' : (0 : Int) < (n : Int) % 8 := by omega
  have hc : (m : Int) - 1 = ((m - 1 : Nat) : Int) := by omega
  have hlt : m - 1 < m := by omega
  have HO := Hd (show over v m n = decide (0 < v (m - 1) / 2 ^ (8 * (n % 8))) by unfold over; rw [decide_eq_true h]; rfl)
  have hs := shr_nat (v (m - 1)) (8 * (n % 8))
  clear hN
  generalize v (m - 1) = x at *
  generalize m - 1 = j at *
  by_cases h2 : 0 < x / 2 ^ (8 * (n % 8))
  ·have h2' : (0 : Int) < (x : Int) / 2 ^ (8 * (n % 8)) := by rw [hs]; omega
   have HO := Hd (show over v m n = true by rw [uh HO, decide_eq_true h2])
   clear hs h2
   go_enter Tryz.func190, Tryz.ntmps190
   go_wp2_with fail
   refine region_tailP 14 (by kernel_rfl) (by kernel_rfl) ?_
   simp only [List.take, List.drop]
   repeat (go_big_quiet_step (first | (go_at_call 185; exact Calls.quiet_of_same (uh KS _))))
   refine wpQuiet_nil ?_
   rintro _ ⟨nq, rfl⟩
   go_wp2
   go_ret
   exact ⟨by rw [uh HO]; rfl, nq, rfl⟩
  ·have h2' : (x : Int) / 2 ^ (8 * (n % 8)) = 0 := by
    rw [hs, Nat.eq_zero_of_not_pos h2]; rfl
   have HO := Hd (show over v m n = false by rw [uh HO, decide_eq_false h2])
   clear hs h2
   go_enter Tryz.func190, Tryz.ntmps190
   go_wp2_with fail
   refine region_tailP 14 (by kernel_rfl) (by kernel_rfl) ?_
   simp only [List.take, List.drop]
   repeat (go_big_quiet_step (first | (go_at_call 185; exact Calls.quiet_of_same (uh KS _))))
   refine wpQuiet_nil ?_
   rintro _ ⟨nq, rfl⟩
   go_wp2
   go_ret
   exact ⟨by rw [uh HO]; rfl, nq, rfl⟩
 ·have h' : (n : Int) % 8 = 0 := by omega
  have HO := Hd (show over v m n = false by unfold over; rw [decide_eq_false h]; rfl)
  clear hN c
  go_enter Tryz.func190, Tryz.ntmps190
  go_wp2_with fail
  refine region_tailP 14 (by kernel_rfl) (by kernel_rfl) ?_
  simp only [List.take, List.drop]
  repeat (go_big_quiet_step (fail))
  refine wpQuiet_nil ?_
  rintro _ ⟨nq, rfl⟩
  go_wp2
  go_ret
  exact ⟨by rw [uh HO]; rfl, nq, rfl⟩
set_option maxRecDepth 100000 in
theorem unpack_ok (a : Option Addr) (m cap : Nat) (v : Nat -> Nat) (w : World) (hN : Nats .u64 w a m v) (hv : ∀ i, i < m -> v i < 18446744073709551616) (hm : m <= 100000) :
  Calls Tryz.prog 164 #[.slice a m cap] w fun e w' => Below w.heap.size w w' /\
   ((unE v m ≠ 0 /\ e = .returned (.tuple #[.slice none 0 0, .int .i64 (unE v m : Nat)])) \/
    (unE v m = 0 /\ ∃ g, e = .returned (.tuple #[.slice (some ⟨g, 0, none⟩) (v 0) (v 0), .int .i64 0]) /\ Mem .u8 w g (v 0) (byteF v) w')) := by
 have HN := Hd hN
 have KN := Hd wneed_ok
 have KF := Hd filled_ok
 by_cases h0 : m = 0
 ·subst h0
  clear hN hv
  go_enter Tryz.func164, Tryz.ntmps164
  go_wp2
  go_ret2
  exact ⟨Below.refl _ _, .inl ⟨by simp [unE], rfl⟩⟩
 ·obtain ⟨xb, xo, rfl, c⟩ := hN 0 (by omega)
  have hv0 := hv 0 (by omega)
  have hmi : ¬ (m : Int) = 0 := by omega
  rw [Nat.add_zero] at c
  by_cases h1 : 65536 < v 0
  ·have h1' : (65536 : Int) < (v 0 : Nat) := by omega
   have HE := Hd (show unE v m = 3 by unfold unE; rw [if_neg h0, if_pos h1])
   clear hN hv
   generalize v 0 = n at *
   go_enter Tryz.func164, Tryz.ntmps164
   go_wp2
   go_ret2
   exact ⟨Below.refl _ _, .inl ⟨(by rw [uh HE]; decide), (by rw [uh HE]; rfl)⟩⟩
  ·have h1' : ¬ (65536 : Int) < (v 0 : Nat) := by omega
   have hw : wrap64 (v 0 : Nat) = (v 0 : Nat) := by unfold wrap64; omega
   by_cases h2 : m < need (v 0)
   ·have h2' : (m : Int) < (need (v 0) : Nat) := by omega
    have HE := Hd (show unE v m = 4 by unfold unE; rw [if_neg h0, if_neg h1, if_pos h2])
    clear hN hv
    generalize hn : v 0 = n at *
    have HV := Hd hn
    have KN1 := Hd (uh KN n (by omega) w)
    clear hn h2
    generalize need n = d at *
    go_enter Tryz.func164, Tryz.ntmps164
    go_wp2_with fail
    refine (uh KN1).mono ?_
    rintro e w' ⟨rfl, h⟩; rw [h]; clear h w'
    go_wp2
    go_ret2
    exact ⟨Below.refl _ _, .inl ⟨(by rw [uh HE]; decide), (by rw [uh HE]; rfl)⟩⟩
   ·have h2' : ¬ (m : Int) < (need (v 0) : Nat) := by omega
    by_cases h3 : need (v 0) < m \/ over v m (v 0) = true
    ·have HE := Hd (show unE v m = 3 by unfold unE; rw [if_neg h0, if_neg h1, if_neg h2, if_pos h3])
     have KF1 := Hd (uh KF (some ⟨xb, xo, none⟩) m cap v (v 0) w (uh HN) (by omega) (by omega) hm)
     have KN1 := Hd (uh KN (v 0) (by omega) w)
     clear hN hv
     by_cases h4 : need (v 0) < m
     ·have h4' : ((need (v 0) : Nat) : Int) < m := by omega
      clear h3
      generalize v 0 = n at *
      clear h2 h4
      generalize need n = d at *
      go_enter Tryz.func164, Tryz.ntmps164
      go_wp2_with fail
      refine (uh KN1).mono ?_
      rintro e w' ⟨rfl, h⟩; rw [h]; clear h w'
      go_wp2_with fail
      refine (uh KN1).mono ?_
      rintro e w' ⟨rfl, h⟩; rw [h]; clear h w'
      go_wp2
      go_ret2
      exact ⟨Below.refl _ _, .inl ⟨(by rw [uh HE]; decide), (by rw [uh HE]; rfl)⟩⟩
     ·have h4' : ¬ ((need (v 0) : Nat) : Int) < m := by omega
      have ho : over v m (v 0) = true := by rcases h3 with h | h; exact absurd h h4; exact h
      rw [ho] at KF1
      clear h3 ho
      generalize v 0 = n at *
      clear h2 h4
      generalize need n = d at *
      go_enter Tryz.func164, Tryz.ntmps164
      go_wp2_with fail
      refine (uh KN1).mono ?_
      rintro e w' ⟨rfl, h⟩; rw [h]; clear h w'
      go_wp2_with fail
      refine (uh KN1).mono ?_
      rintro e w' ⟨rfl, h⟩; rw [h]; clear h w'
      go_wp2_with fail
      refine (uh KF1).mono ?_
      rintro e w' ⟨rfl, q, rfl⟩
      go_wp2
      go_ret2
      exact ⟨Below.drewN' (Below.refl _ _) q, .inl ⟨(by rw [uh HE]; decide), (by rw [uh HE]; rfl)⟩⟩
    ·have HE := Hd (show unE v m = 0 by unfold unE; rw [if_neg h0, if_neg h1, if_neg h2, if_neg h3])
     have h4' : ¬ ((need (v 0) : Nat) : Int) < m := by omega
     have ho : over v m (v 0) = false := by
      cases h : over v m (v 0) with
      | true => exact absurd (.inr h) h3
      | false => rfl
     have KF1 := Hd (uh KF (some ⟨xb, xo, none⟩) m cap v (v 0) w (uh HN) (by omega) (by omega) hm)
     rw [ho] at KF1
     have KN1 := Hd (uh KN (v 0) (by omega) w)
     have hmn : m = need (v 0) := by omega
     have HMN := Hd (show m = 1 + (v 0 + 7) / 8 from hmn)
     have HVV := Hd hv
     have KS := Hd shift_ok
     clear hN hv h3 ho h4' h2 h2'
     rw [<- hmn] at KN1
     clear hmn
     generalize hvn : v 0 = n at *
     have HV := Hd hvn
     clear hvn
     go_enter Tryz.func164, Tryz.ntmps164
     go_wp2_with fail
     refine (uh KN1).mono ?_
     rintro e w' ⟨rfl, h⟩; rw [h]; clear h w'
     go_wp2_with fail
     refine (uh KN1).mono ?_
     rintro e w' ⟨rfl, h⟩; rw [h]; clear h w'
     go_wp2_with fail
     refine (uh KF1).mono ?_
     rintro e w' ⟨rfl, nq, rfl⟩
     obtain ⟨w1, hmk, hM⟩ := make_bytes n (by omega) (w.drewN nq)
     have HM := Hd (hM.since (Below.drewN' (Below.refl w.heap.size w) nq))
     have hg : (w.drewN nq).heap.size = w.heap.size := rfl
     rw [hg] at hmk HM
     clear hM c hg
     go_wp2_with fail
     go_loopw [37] (fun vi wr => ∃ k : Nat, vi = .int .i64 k /\ Hid (k <= n /\ Mem .u8 w w.heap.size n (fun i => if i < k then byteF v i else 0) wr)) (fun vi wr => n - (RowKit.intOf vi).toNat)
     case atStart => exact ⟨0, rfl, Hd ⟨Nat.zero_le _, (uh HM).ext fun i _ => by simp⟩⟩
     case round =>
      obtain ⟨k, rfl, HI⟩ := hrel
      obtain ⟨hk, hM⟩ := uh HI
      by_cases hlt : k < n
      ·have hlt' : (k : Int) < n := by omega
       have hp : 1 + k / 8 < m := by have := uh HMN; omega
       obtain ⟨_, _, e1, c1⟩ := ((uh HN).on hM.bel) (1 + k / 8) hp
       cases e1
       have c2 := hM.cell k hlt
       rw [if_neg (by omega)] at c2
       have z2 := hM.fz k
       have KS1 := Hd (uh KS k (by omega))
       have hx := uh HVV (1 + k / 8) hp
       have HBF := Hd (show v (1 + k / 8) / 2 ^ (8 * (k % 8)) % 256 = byteF v k from rfl)
       clear HI
       have HM1 := Hd hM
       clear hM
       generalize v (1 + k / 8) = x at *
       have hst := fun (w : World) (a : Addr) (x : Int) (m : Mode) => run_store Tryz.prog w a (.int .u8 x) m rfl
       go_wp2_with fail
       refine region_tailP 13 (by kernel_rfl) (by kernel_rfl) ?_
       simp only [List.take, List.drop]
       repeat (go_big_quiet_step (first | (go_at_call 185; exact Calls.quiet_of_same (uh KS1 _))))
       refine wpQuiet_nil ?_
       rintro _ ⟨nr, rfl⟩
       have hval : ((x : Int) / 2 ^ (8 * (k % 8))) % 256 = ((x / 2 ^ (8 * (k % 8)) % 256 : Nat) : Int) := by rw [shr_nat, Int.natCast_emod]; rfl
       rw [hval]
       have HM2 := Hd (((uh HM1).drewN nr).set k (x / 2 ^ (8 * (k % 8)) % 256) hlt)
       generalize x / 2 ^ (8 * (k % 8)) % 256 = y at *
       generalize hwd : wr.drewN nr = wd at *
       have c3 : wd.cell? ⟨w.heap.size, k, none⟩ = some (.int .u8 ((0 : Nat) : Int)) := by rw [<- hwd]; exact c2
       have z3 : wd.frozen? ⟨w.heap.size, k, none⟩ = false := by rw [<- hwd]; exact z2
       clear c1 c2 z2 hwd hmk hval
       go_wp2
       go_roundw
       case rel =>
        refine ⟨k + 1, by go_num, Hd ⟨by omega, (uh HM2).ext fun i _ => ?_⟩⟩
        by_cases hi : i = k
        ·rw [if_pos hi, if_pos (by omega), hi, uh HBF]
        ·rw [if_neg hi]
         by_cases h2 : i < k
         ·rw [if_pos h2, if_pos (by omega)]
         ·rw [if_neg h2, if_neg (by omega)]
       case measure => simp [RowKit.intOf]; omega
      ·have hlt' : ¬ (k : Int) < n := by omega
       obtain rfl : k = n := by omega
       clear HI
       have HM1 := Hd hM
       clear hM
       go_wp2
       go_ret2
       refine ⟨(uh HM1).bel, .inr ⟨uh HE, w.heap.size, ?_, ?_⟩⟩
       ·rfl
       ·exact (uh HM1).ext fun i hi => by rw [if_pos hi]
def strB (f : Nat -> Nat) (n : Nat) : ByteArray := strOfNums ((rowL f n).map fun (x : Nat) => (x : Int))
theorem strB_size (f : Nat -> Nat) (n : Nat) : (strB f n).size = n := by rw [strB, strOfNums_size]; simp [rowL]
theorem strB_congr (f g : Nat -> Nat) (n : Nat) (h : ∀ i, i < n -> f i = g i) : strB f n = strB g n := by
 unfold strB rowL
 congr 2
 exact List.map_congr_left fun i hi => h i (by simpa using hi)
theorem conv_str (w : World) (a : Option Addr) (len cap : Nat) (f : Nat -> Nat) (hN : Nats .u8 w a len f) :
  (convert 80 9 (.slice a len cap)).run Tryz.prog w = .ok (.string (strB f len)) w := by
 by_cases h : len = 0
 ·subst h
  rw [run_convert_bytes_string w 80 9 5 _ 0 cap Tryz.underlying80 Tryz.underlying5 Tryz.underlying9]
  cases a <;> simp [Conv.bytesToString, loadCells, strB, rowL, strOfNums]
  all_goals rfl
 ·obtain ⟨xb, xo, rfl, _⟩ := hN 0 (by omega)
  refine run_convert_bytes_arg (P := Tryz.prog) w 80 5 Tryz.underlying80 Tryz.underlying5 xb xo len cap _ (by simp [rowL]) ?_ 9 Tryz.underlying9
  intro i hi
  obtain ⟨_, _, e, c⟩ := hN i hi
  cases e
  rw [c]
  simp [rowL, hi]
theorem over_false (v : Nat -> Nat) (n : Nat) (hv : v (need n - 1) < 18446744073709551616) (h : ∀ i, n <= i -> i < 8 * (need n - 1) -> byteF v i = 0) : over v (need n) n = false := by
 unfold over
 by_cases h8 : 0 < n % 8
 ·have hd : need n - 1 = 1 + n / 8 := by unfold need; omega
  rw [decide_eq_true h8, Bool.true_and, decide_eq_false]
  rw [hd] at hv ⊢
  intro hp
  have : v (1 + n / 8) / 2 ^ (8 * (n % 8)) = 0 := by
   apply Nat.eq_of_testBit_eq
   intro m
   rw [Nat.testBit_div_two_pow, Nat.zero_testBit]
   by_cases hm : m + 8 * (n % 8) < 64
   ·have hb := h (8 * (n / 8) + (m + 8 * (n % 8)) / 8) (by omega) (by rw [hd]; omega)
    unfold byteF at hb
    rw [show 1 + (8 * (n / 8) + (m + 8 * (n % 8)) / 8) / 8 = 1 + n / 8 by omega, show (8 * (n / 8) + (m + 8 * (n % 8)) / 8) % 8 = (m + 8 * (n % 8)) / 8 by omega] at hb
    have h2 : (v (1 + n / 8) / 2 ^ (8 * ((m + 8 * (n % 8)) / 8)) % 2 ^ 8).testBit ((m + 8 * (n % 8)) % 8) = false := by
     rw [show (2 : Nat) ^ 8 = 256 from rfl, hb]; simp
    rw [Nat.testBit_mod_two_pow, Nat.testBit_div_two_pow, decide_eq_true (by omega), Bool.true_and] at h2
    rw [<- h2]; congr 1; omega
   ·exact Nat.testBit_lt_two_pow (Nat.lt_of_lt_of_le hv (Nat.pow_le_pow_right (n := 2) (by decide) (show 64 <= m + 8 * (n % 8) by omega)))
  omega
 ·rw [decide_eq_false h8]; rfl
theorem byte_of (b : Nat -> Nat) (n k : Nat) (hk : k < n) (hb : ∀ i, i < n -> b i < 256) : wordN b n (k / 8) / 2 ^ (8 * (k % 8)) % 256 = b k := by
 apply Nat.eq_of_testBit_eq
 intro m
 rw [show (256 : Nat) = 2 ^ 8 from rfl, Nat.testBit_mod_two_pow, Nat.testBit_div_two_pow, word_bit _ _ _ _ hb]
 by_cases h : m < 8
 ·rw [show 8 * (k / 8) + (m + 8 * (k % 8)) / 8 = k by omega, show (m + 8 * (k % 8)) % 8 = m by omega, decide_eq_true h, decide_eq_true (show m + 8 * (k % 8) < 64 /\ k < n by omega)]
  simp
 ·rw [Nat.testBit_lt_two_pow (Nat.lt_of_lt_of_le (hb k hk) (Nat.pow_le_pow_right (n := 2) (by decide) (show 8 <= m by omega)))]
  simp [h]
theorem pack_back (b : Nat -> Nat) (n : Nat) (hb : ∀ i, i < n -> b i < 256) (hn : n <= 60000) : unE (packF b n) (need n) = 0 /\ packF b n 0 = n /\ ∀ i, i < n -> byteF (packF b n) i = b i := by
 have h0 : packF b n 0 = n := rfl
 have hB : ∀ i, i < n -> byteF (packF b n) i = b i := by
  intro i hi
  unfold byteF
  rw [show packF b n (1 + i / 8) = wordN b n (i / 8) by unfold packF; rw [if_neg (by omega), show 1 + i / 8 - 1 = i / 8 by omega]]
  exact byte_of b n i hi hb
 refine ⟨?_, h0, hB⟩
 have ho : over (packF b n) (need n) n = false := by
  refine over_false _ n ?_ ?_
  ·unfold packF; split
   ·omega
   ·exact word_lt _ _ _ hb
  ·intro i h1 h2
   unfold byteF
   rw [show packF b n (1 + i / 8) = wordN b n (i / 8) by unfold packF; rw [if_neg (by omega), show 1 + i / 8 - 1 = i / 8 by omega]]
   apply Nat.eq_of_testBit_eq
   intro m
   rw [show (256 : Nat) = 2 ^ 8 from rfl, Nat.testBit_mod_two_pow, Nat.testBit_div_two_pow, word_bit _ _ _ _ hb, Nat.zero_testBit]
   by_cases hm : m < 8
   ·rw [decide_eq_false (show ¬ (m + 8 * (i % 8) < 64 /\ 8 * (i / 8) + (m + 8 * (i % 8)) / 8 < n) by omega)]; simp
   ·simp [hm]
 unfold unE
 rw [h0, if_neg (by unfold need; omega), if_neg (by omega), if_neg (by omega), if_neg]
 rintro (h | h)
 ·omega
 ·rw [ho] at h; cases h
theorem pack_lt (b : Nat -> Nat) (n j : Nat) (hb : ∀ i, i < n -> b i < 256) (hn : n <= 60000) : packF b n j < 18446744073709551616 := by
 unfold packF; split
 ·omega
 ·exact word_lt _ _ _ hb
end Go.Proofs.YtbpndmghlnadiaaGreatDoor
