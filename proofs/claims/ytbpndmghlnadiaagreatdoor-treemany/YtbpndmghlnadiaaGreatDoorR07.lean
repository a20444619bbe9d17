/- Joined: Wa Wb GBud GCov. -/
import Derived.Laws.CopyOwn
import Derived.Test.YtbpndmghlnadiaaGreatDoorR00
import Derived.Test.YtbpndmghlnadiaaGreatDoorR06
namespace Go.Proofs.YtbpndmghlnadiaaGreatDoor
open Go.RowKit
set_option maxHeartbeats 4000000
def uvN (x : Nat) : List Nat := if x < 128 then [x] else (x % 128 + 128) :: uvN (x / 128)
theorem uv_lo (x : Nat) (h : x < 128) : uvN x = [x] := by unfold uvN; rw [if_pos h]
theorem uv_hi (x : Nat) (h : ¬ x < 128) : uvN x = (x % 128 + 128) :: uvN (x / 128) := by rw [uvN, if_neg h]
theorem uv_len (n : Nat) : ∀ x, x < 128 ^ (n + 1) -> (uvN x).length <= n + 1 := by
 induction n with
 | zero => intro x hx; rw [uv_lo x (by simpa using hx)]; simp
 | succ n ih =>
  intro x hx
  by_cases h : x < 128
  ·rw [uv_lo x h]; simp
  ·rw [uv_hi x h]
   have := ih (x / 128) (Nat.div_lt_of_lt_mul (by rw [Nat.pow_succ] at hx; omega))
   simp; omega
set_option maxRecDepth 100000 in
theorem or128 (x : Nat) : bits .or .u8 ((x : Int) % 256) 128 = ((x % 128 + 128 : Nat) : Int) := by
 have e : (x : Int) % 256 = ((x % 256 : Nat) : Int) := by omega
 rw [e, show (128 : Int) = ((128 : Nat) : Int) from rfl, u8_or_nat _ 128 (Nat.mod_lt _ (by decide)) (by decide)]
 have : ∀ y : Fin 256, y.val ||| 128 = y.val % 128 + 128 := by decide
 have h := this ⟨x % 256, Nat.mod_lt _ (by decide)⟩
 rw [show x % 256 ||| 128 = x % 256 % 128 + 128 from h]
 omega
set_option maxRecDepth 100000 in
theorem number_ok (v : Value) (l : List Nat) (x : Nat) (w : World) (base : Nat) (hbase : base <= w.heap.size) (hO : OwnL .u8 5 w base v l) (hl : l.length <= 900000) (hx : x < 18446744073709551616) :
  Calls Tryz.prog 198 #[v, .int .u64 x] w fun e w' => ∃ v', e = .returned v' /\ More .u8 5 w base v' (l ++ uvN x) w' := by
 have HO := Hd hO
 have HU := Hd (uv_len 9 x (by omega))
 clear hO
 go_enter Tryz.func198, Tryz.ntmps198
 go_wp2
 go_loopw [0, 1] (fun v vx wr => ∃ (t : Nat) (l' : List Nat), vx = .int .u64 t /\ t < 18446744073709551616 /\ Hid (l' ++ uvN t = uvN x) /\ Hid (OwnL .u8 5 wr base v (l ++ l')) /\ Hid (Below base w wr)) (fun v vx wr => (RowKit.intOf vx).toNat)
 case atStart => exact ⟨x, [], rfl, hx, Hd rfl, Hd (by rw [List.append_nil]; exact uh HO), Hd (Below.refl _ _)⟩
 case round =>
  obtain ⟨t, l', rfl, ht, HT, HO1, HB⟩ := hrel
  by_cases h : t < 128
  ·have h' : ¬ (128 : Int) <= t := by omega
   have hbs : base <= wr.heap.size := by have := (uh HB).size; omega
   have e256 : (t : Int) % 256 = t := by omega
   go_wp2_with (at_builtin; refine append_u8 wr rfl (.tmp 15) (.tmp 18) rfl base _ (l ++ l') t rfl (uh HO1) rfl ?len hbs ?_)
   case len =>
    have h1 := uh HT; have h2 := uh HU
    rw [<- h1] at h2; simp at h2 ⊢; omega
   intro v' w2 hP
   have HP := Hd hP
   clear hP
   go_wp2
   go_ret
   refine ⟨_, rfl, ?_, (uh HB).trans (uh HP).bel⟩
   rw [<- uh HT, uv_lo t h]; exact (uh HP).own
  ·have h' : (128 : Int) <= t := by omega
   have hbs : base <= wr.heap.size := by have := (uh HB).size; omega
   have E := or128 t
   generalize hy : t % 128 + 128 = y at *
   have HY := Hd hy
   clear hy
   go_wp2_with (at_builtin; refine append_u8 wr rfl (.tmp 7) (.tmp 11) rfl base _ (l ++ l') y rfl (uh HO1) rfl ?len hbs ?_)
   case len =>
    have h1 := uh HT; have h2 := uh HU
    rw [<- h1] at h2; simp at h2 ⊢; omega
   intro v' w2 hP
   have HP := Hd hP
   clear hP
   go_wp2
   go_roundw
   case rel =>
    refine ⟨t / 128, l' ++ [y], by simp, by omega, Hd ?_, Hd ?_, Hd ((uh HB).trans (uh HP).bel)⟩
    ·rw [<- uh HT, uv_hi t h, uh HY]; simp
    ·exact (uh HP).own
   case measure => simp [RowKit.intOf]; omega
def PartsAt (w : World) (a : Option Addr) (len : Nat) (A : Nat -> Option Addr) (L C : Nat -> Nat) (Z : Nat -> Nat -> Nat) : Prop :=
 ∀ k, k < len -> (∃ xb xo, a = some ⟨xb, xo, none⟩ /\ w.cell? ⟨xb, xo + k, none⟩ = some (.slice (A k) (L k) (C k))) /\ Nats .u8 w (A k) (L k) (Z k) /\ (∀ i, i < L k -> Z k i < 256) /\ (A k = none -> L k = 0 /\ C k = 0)
theorem PartsAt.on {w w' : World} {a : Option Addr} {len : Nat} {A : Nat -> Option Addr} {L C : Nat -> Nat} {Z : Nat -> Nat -> Nat} (h : PartsAt w a len A L C Z) (b : Below w.heap.size w w') : PartsAt w' a len A L C Z := by
 intro k hk
 obtain ⟨⟨xb, xo, e, c⟩, hN, hb, hn⟩ := h k hk
 exact ⟨⟨xb, xo, e, (b.cell (World.block_lt_of_cell? w _ c)).trans c⟩, hN.on b, hb, hn⟩
def partL (L : Nat -> Nat) (Z : Nat -> Nat -> Nat) (i : Nat) : List Nat := uvN (L i) ++ rowL (Z i) (L i)
def joinL (L : Nat -> Nat) (Z : Nat -> Nat -> Nat) : Nat -> List Nat
 | 0 => []
 | i + 1 => joinL L Z i ++ partL L Z i
def ul (n : Nat) : Nat := if n < 128 then 1 else 2
def offL (L : Nat -> Nat) : Nat -> Nat
 | 0 => 0
 | i + 1 => offL L i + (ul (L i) + L i)
theorem ul_pos (n : Nat) : 1 <= ul n /\ ul n <= 2 := by unfold ul; split <;> omega
theorem uv_two (n : Nat) (h1 : ¬ n < 128) (h2 : n < 16384) : uvN n = [n % 128 + 128, n / 128] := by rw [uv_hi n h1, uv_lo _ (by omega)]
theorem uv_ul (n : Nat) (h : n < 16384) : (uvN n).length = ul n := by
 unfold ul
 split
 ·rename_i h1; rw [uv_lo n h1]; rfl
 ·rename_i h1; rw [uv_two n h1 h]; rfl
theorem join_len (L : Nat -> Nat) (Z : Nat -> Nat -> Nat) (n : Nat) (hL : ∀ i, i < n -> L i < 16384) : (joinL L Z n).length = offL L n := by
 induction n with
 | zero => rfl
 | succ n ih => simp [joinL, offL, partL, ih (fun i hi => hL i (by omega)), uv_ul _ (hL n (by omega)), rowL_len]
theorem off_lt (L : Nat -> Nat) (i j : Nat) (h : i < j) : offL L i < offL L j := by
 induction j with
 | zero => omega
 | succ j ih =>
  have := (ul_pos (L j)).1
  show offL L i < offL L j + (ul (L j) + L j)
  by_cases e : i = j
  ·subst e; omega
  ·have := ih (by omega); omega
theorem join_part (L : Nat -> Nat) (Z : Nat -> Nat -> Nat) (n i : Nat) (h : i < n) : ∃ rest, joinL L Z n = joinL L Z i ++ (partL L Z i ++ rest) := by
 induction n with
 | zero => omega
 | succ n ih =>
  by_cases e : i = n
  ·subst e; exact ⟨[], by simp [joinL]⟩
  ·obtain ⟨rest, hr⟩ := ih (by omega)
   exact ⟨rest ++ partL L Z n, by rw [joinL, hr]; simp⟩
def joinF (L : Nat -> Nat) (Z : Nat -> Nat -> Nat) (n : Nat) (t : Nat) : Nat := (joinL L Z n).getD t 0
theorem joinF_at (L : Nat -> Nat) (Z : Nat -> Nat -> Nat) (n i : Nat) (h : i < n) (hL : ∀ i, i < n -> L i < 16384) :
  (L i < 128 -> joinF L Z n (offL L i) = L i) /\ (¬ L i < 128 -> joinF L Z n (offL L i) = L i % 128 + 128 /\ joinF L Z n (offL L i + 1) = L i / 128) := by
 obtain ⟨rest, hr⟩ := join_part L Z n i h
 have hl := join_len L Z i (fun j hj => hL j (by omega))
 unfold joinF
 rw [hr]
 constructor
 ·intro h1
  rw [List.getD_eq_getElem?_getD, List.getElem?_append_right (by omega), hl, Nat.sub_self, partL, uv_lo _ h1]
  simp
 ·intro h1
  constructor
  ·rw [List.getD_eq_getElem?_getD, List.getElem?_append_right (by omega), hl, Nat.sub_self, partL, uv_two _ h1 (hL i h)]
   simp
  ·rw [List.getD_eq_getElem?_getD, List.getElem?_append_right (by omega), hl, show offL L i + 1 - offL L i = 1 by omega, partL, uv_two _ h1 (hL i h)]
   simp
theorem uv_lt (n : Nat) (h : n < 16384) : ∀ x ∈ uvN n, x < 256 := by
 by_cases h1 : n < 128
 ·rw [uv_lo n h1]; simp; omega
 ·rw [uv_two n h1 h]; simp; omega
theorem join_lt (L : Nat -> Nat) (Z : Nat -> Nat -> Nat) (n : Nat) (hL : ∀ i, i < n -> L i < 16384) (hZ : ∀ i, i < n -> ∀ t, t < L i -> Z i t < 256) : ∀ x ∈ joinL L Z n, x < 256 := by
 induction n with
 | zero => intro x hx; cases hx
 | succ n ih =>
  intro x hx
  rw [joinL, partL] at hx
  rcases List.mem_append.1 hx with h | h
  ·exact ih (fun i hi => hL i (by omega)) (fun i hi => hZ i (by omega)) x h
  ·rcases List.mem_append.1 h with h | h
   ·exact uv_lt _ (hL n (by omega)) x h
   ·simp [rowL] at h
    obtain ⟨t, ht, rfl⟩ := h
    exact hZ n (by omega) t ht
theorem joinF_lt (L : Nat -> Nat) (Z : Nat -> Nat -> Nat) (n t : Nat) (hL : ∀ i, i < n -> L i < 16384) (hZ : ∀ i, i < n -> ∀ t, t < L i -> Z i t < 256) : joinF L Z n t < 256 := by
 unfold joinF
 rw [List.getD_eq_getElem?_getD]
 cases h : (joinL L Z n)[t]? with
 | none => simp
 | some x => exact join_lt L Z n hL hZ x (List.mem_of_getElem? h)
set_option maxRecDepth 100000 in
theorem join_ok (a : Option Addr) (len cap : Nat) (A : Nat -> Option Addr) (L C : Nat -> Nat) (Z : Nat -> Nat -> Nat) (w : World) (hP : PartsAt w a len A L C Z) (hl : len <= 200) (hL : ∀ i, i < len -> L i <= 3000) :
  Calls Tryz.prog 183 #[.slice a len cap] w fun e w' => ∃ v, e = .returned v /\ More .u8 5 w w.heap.size v (joinL L Z len) w' := by
 have HP := Hd hP
 have HL := Hd hL
 have KN := Hd number_ok
 have HLen := Hd (show ∀ k, k <= len -> (joinL L Z k).length <= 3010 * k by
  intro k hk
  rw [join_len L Z k (fun i hi => by have := hL i (by omega); omega)]
  induction k with
  | zero => exact Nat.le_refl _
  | succ k ih =>
   have h1 := ih (by omega)
   have h2 := hL k (by omega)
   have h3 := (ul_pos (L k)).2
   unfold offL; omega)
 clear hP hL
 go_enter Tryz.func183, Tryz.ntmps183
 go_wp2_with fail
 go_loopw [3, 8] (fun v vi wr => ∃ k : Nat, vi = .int .i64 k /\ Hid (k <= len) /\ Hid (OwnL .u8 5 wr w.heap.size v (joinL L Z k)) /\ Hid (Below w.heap.size w wr)) (fun v vi wr => len - (RowKit.intOf vi).toNat)
 case atStart => exact ⟨0, rfl, Hd (Nat.zero_le _), Hd (OwnL.nil _ _ _ _), Hd (Below.refl _ _)⟩
 case round =>
  obtain ⟨k, rfl, HK, HO, HB⟩ := hrel
  by_cases hlt : k < len
  ·have hlt' : (k : Int) < len := by omega
   obtain ⟨⟨xb, xo, rfl, c⟩, hN, _, hnil⟩ := (uh HP).on (uh HB) k hlt
   have HNF := Hd (show ∀ w2, Below w.heap.size w w2 -> Nats .u8 w2 (A k) (L k) (Z k) from fun w2 h => ((uh HP).on h k hlt).2.1)
   have HNI := Hd hnil
   have hlk := uh HL k hlt
   have HJ := Hd (show joinL L Z (k + 1) = joinL L Z k ++ (uvN (L k) ++ rowL (Z k) (L k)) from rfl)
   have HJL := uh HLen k (uh HK)
   have HUL := Hd (uv_len 9 (L k) (by omega))
   have KN1 := Hd (uh KN _ (joinL L Z k) (L k) wr w.heap.size (uh HB).size (uh HO) (by omega) (by omega))
   clear hN hnil
   generalize A k = ak at *
   generalize C k = ck at *
   generalize L k = lk at *
   generalize Z k = zk at *
   generalize joinL L Z k = J at *
   go_wp2_with fail
   refine (uh KN1).mono ?_
   rintro e w2 ⟨v2, rfl, hM⟩
   have HB2 := Hd ((uh HB).trans hM.bel)
   have HO2 := Hd hM.own
   have hbs : w.heap.size <= w2.heap.size := (uh HB2).size
   clear hM
   go_wp2_with (at_builtin; refine append_row infoB (by decide) Tryz.underlying80 w2 rfl (.tmp 17) (.tmp 18) rfl w.heap.size _ (J ++ uvN lk) rfl (uh HO2) ak lk ck zk rfl (uh HNI) (uh HNF w2 (uh HB2)) ?len hbs ?_)
   case len =>
    have := uh HUL
    simp only [List.length_append]
    omega
   intro v3 w3 hM
   have HM := Hd hM
   clear hM
   go_wp2
   go_roundw
   case rel =>
    refine ⟨k + 1, by go_num, Hd hlt, Hd ?_, Hd ((uh HB2).trans (uh HM).bel)⟩
    have := (uh HM).own
    rw [uh HJ]
    simpa using this
   case measure => simp [RowKit.intOf]; omega
  ·have hlt' : ¬ (k : Int) < len := by omega
   obtain rfl : k = len := by have := uh HK; omega
   go_wp2
   go_ret
   exact ⟨_, rfl, uh HO, uh HB⟩
set_option maxRecDepth 100000 in
theorem and127 (x : Nat) (h : x < 256) : bits .and .u8 (x : Int) 127 = ((x % 128 : Nat) : Int) := by
 rw [show (127 : Int) = ((127 : Nat) : Int) from rfl, u8_and_nat x 127 h (by decide), nat_mask7]
theorem or7 (x y : Nat) (hx : x < 128) (hy : y < 128) : bits .or .u64 ((x : Int) * 128) (y : Int) = ((x * 128 + y : Nat) : Int) := by
 have e : (x : Int) * 128 = ((x * 128 : Nat) : Int) := by omega
 rw [e, u64_or_nat _ _ (by omega) (by omega), nat_join 7 _ _ (by omega) (by omega)]
theorem or0 (y : Nat) (hy : y < 128) : bits .or .u64 0 (y : Int) = (y : Int) := by
 rw [show (0 : Int) = ((0 : Nat) : Int) from rfl, u64_or_nat _ _ (by omega) (by omega), Nat.zero_or]
def varR (n len : Nat) : Array Value := if n < 128 \/ 2 <= len then #[.int .u64 (n : Nat), .int .i64 (ul n : Nat), .int .i64 0] else #[.int .u64 0, .int .i64 0, .int .i64 4]
set_option maxRecDepth 100000 in
theorem var_ok (a : Option Addr) (len cap : Nat) (f : Nat -> Nat) (n : Nat) (w : World) (hN : Nats .u8 w a len f) (h0 : 0 < len) (hl : len <= 100000) (hn : n < 16384) (h1 : n < 128 -> f 0 = n) (h2 : ¬ n < 128 -> f 0 = n % 128 + 128 /\ (2 <= len -> f 1 = n / 128)) :
  Calls Tryz.prog 191 #[.slice a len cap] w fun e w' => e = .returned (.tuple (varR n len)) /\ w' = w := by
 obtain ⟨xb, xo, rfl, c0⟩ := hN 0 h0
 rw [Nat.add_zero] at c0
 have h0' : (0 : Int) < len := by omega
 have hne : ¬ (0 : Int) = len := by omega
 by_cases hs : n < 128
 ·rw [h1 hs] at c0
  have HR := Hd (show varR n len = #[.int .u64 (n : Nat), .int .i64 1, .int .i64 0] by unfold varR ul; rw [if_pos (.inl hs), if_pos hs]; rfl)
  have e1 := and127 n (by omega)
  rw [Nat.mod_eq_of_lt hs] at e1
  have e2 := or0 n hs
  have hs' : ¬ (128 : Int) <= n := by omega
  clear hN h1 h2
  go_enter Tryz.func191, Tryz.ntmps191
  go_wp2_with fail
  go_loop [5] (fun v => v = .int .i64 0) (fun _ => 0)
  case atStart => rfl
  case round =>
   obtain rfl := hrel
   go_wp2_with fail
   go_loop [2, 6] (fun x i => (x = .int .u64 0 /\ i = .int .i64 0) \/ (x = .int .u64 (n : Nat) /\ i = .int .i64 (-1))) (fun _ i => (RowKit.intOf i + 1).toNat)
   case atStart => exact .inl ⟨rfl, rfl⟩
   case round =>
    rcases hrel with ⟨rfl, rfl⟩ | ⟨rfl, rfl⟩
    ·go_wp2
     exact ⟨.inr ⟨rfl, rfl⟩, by simp [RowKit.intOf]⟩
    ·go_wp2
     go_ret3
     exact ⟨by rw [uh HR]; rfl, rfl⟩
 ·obtain ⟨f0, f1⟩ := h2 hs
  rw [f0] at c0
  have hs' : (128 : Int) <= ((n % 128 + 128 : Nat) : Int) := by omega
  by_cases h2l : 2 <= len
  ·have HR := Hd (show varR n len = #[.int .u64 (n : Nat), .int .i64 2, .int .i64 0] by unfold varR ul; rw [if_pos (.inr h2l), if_neg hs]; rfl)
   obtain ⟨_, _, e, c1⟩ := hN 1 h2l
   cases e
   rw [f1 h2l] at c1
   have e1 := and127 (n % 128 + 128) (by omega)
   rw [show (n % 128 + 128) % 128 = n % 128 by omega] at e1
   have e2 := and127 (n / 128) (by omega)
   rw [show n / 128 % 128 = n / 128 by omega] at e2
   have e3 := or0 (n / 128) (by omega)
   have e4 := or7 (n / 128) (n % 128) (by omega) (by omega)
   rw [show n / 128 * 128 + n % 128 = n by omega] at e4
   have l1 : (1 : Int) < len := by omega
   have ne1 : ¬ (1 : Int) = len := by omega
   have t1 : ¬ (128 : Int) <= ((n / 128 : Nat) : Int) := by omega
   have t0 : ¬ ((n / 128 : Nat) : Int) = 0 := by omega
   have hw1 : IntKind.u64.wrap (((n / 128 : Nat) : Int) * 128) = ((n / 128 : Nat) : Int) * 128 := by rw [IntKind.wrap_u64]; omega
   have hw2 : IntKind.u64.wrap ((n % 128 : Nat) : Int) = ((n % 128 : Nat) : Int) := by rw [IntKind.wrap_u64]; omega
   have HB := Hd (show n / 128 < 128 /\ n % 128 < 128 from ⟨by omega, by omega⟩)
   clear hN h1 h2 f0 f1 hs
   generalize hq : n / 128 = q at *
   generalize hr : n % 128 + 128 = r at *
   generalize hm : n % 128 = m at *
   clear hq hr hm
   go_enter Tryz.func191, Tryz.ntmps191
   go_wp2_with fail
   go_loop [5] (fun v => v = .int .i64 0 \/ v = .int .i64 1) (fun v => 1 - (RowKit.intOf v).toNat)
   case atStart => exact .inl rfl
   case round =>
    rcases hrel with rfl | rfl
    ·go_wp2
     exact ⟨.inr rfl, by simp [RowKit.intOf]⟩
    ·go_wp2_with fail
     go_loop [2, 6] (fun x i => (x = .int .u64 0 /\ i = .int .i64 1) \/ (x = .int .u64 (q : Nat) /\ i = .int .i64 0) \/ (x = .int .u64 (n : Nat) /\ i = .int .i64 (-1))) (fun _ i => (RowKit.intOf i + 1).toNat)
     case atStart => exact .inl ⟨rfl, rfl⟩
     case round =>
      rcases hrel with ⟨rfl, rfl⟩ | ⟨rfl, rfl⟩ | ⟨rfl, rfl⟩
      ·go_wp2
       exact ⟨.inr (.inl ⟨rfl, rfl⟩), by simp [RowKit.intOf]⟩
      ·go_wp2
       exact ⟨.inr (.inr ⟨rfl, rfl⟩), by simp [RowKit.intOf]⟩
      ·go_wp2
       go_ret3
       exact ⟨by rw [uh HR]; rfl, rfl⟩
  ·obtain rfl : len = 1 := by omega
   have HR := Hd (show varR n 1 = #[.int .u64 0, .int .i64 0, .int .i64 4] by unfold varR; rw [if_neg (by omega)])
   clear hN h1 h2 f0 f1 hs hne
   generalize n % 128 + 128 = r at *
   go_enter Tryz.func191, Tryz.ntmps191
   go_wp2_with fail
   go_loop [5] (fun v => v = .int .i64 0 \/ v = .int .i64 1) (fun v => 1 - (RowKit.intOf v).toNat)
   case atStart => exact .inl rfl
   case round =>
    rcases hrel with rfl | rfl
    ·go_wp2
     exact ⟨.inr rfl, by simp [RowKit.intOf]⟩
    ·go_wp2
     go_ret3
     exact ⟨by rw [uh HR]; rfl, rfl⟩

section
def lv (words : Nat) : Nat := if words <= 8 then 0 else if words <= 16 then 1 else if words <= 32 then 2 else if words <= 64 then 3 else if words <= 128 then 4 else if words <= 256 then 5 else 6
theorem lv_le (x : Nat) : lv x <= 6 := by
 unfold lv
 repeat (split; omega)
 omega
theorem lv_holds (x : Nat) (h : x <= 512) : x <= 8 * 2 ^ lv x := by
 unfold lv
 repeat (split; omega)
 omega
def bud (b : Nat) : Nat := if b % 2 = 0 then b + 1 else b - 1
theorem bud_ne (b : Nat) : bud b ≠ b := by unfold bud; split <;> omega
theorem bud_bud (b : Nat) : bud (bud b) = b := by unfold bud; split <;> split <;> omega
theorem bud_half (b : Nat) : bud b / 2 = b / 2 := by unfold bud; split <;> omega
def sum7 (g : Nat -> Nat) : Nat := g 0 + g 1 + g 2 + g 3 + g 4 + g 5 + g 6
theorem sum7_congr {g h : Nat -> Nat} (e : ∀ k, k < 7 -> g k = h k) : sum7 g = sum7 h := by
 unfold sum7
 rw [e 0 (by omega), e 1 (by omega), e 2 (by omega), e 3 (by omega), e 4 (by omega), e 5 (by omega), e 6 (by omega)]
theorem lt7 {k : Nat} (h : k < 7) : k = 0 \/ k = 1 \/ k = 2 \/ k = 3 \/ k = 4 \/ k = 5 \/ k = 6 := by omega
theorem sum7_one {g h : Nat -> Nat} {k : Nat} (hk : k < 7) (e : ∀ j, j ≠ k -> g j = h j) : sum7 g + h k = sum7 h + g k := by
 unfold sum7
 rcases lt7 hk with rfl | rfl | rfl | rfl | rfl | rfl | rfl
 all_goals
  (try rw [e 0 (by omega)]); (try rw [e 1 (by omega)]); (try rw [e 2 (by omega)]); (try rw [e 3 (by omega)]); (try rw [e 4 (by omega)]); (try rw [e 5 (by omega)]); (try rw [e 6 (by omega)])
  omega
theorem sum7_le (g : Nat -> Nat) {k : Nat} (hk : k < 7) : g k <= sum7 g := by
 unfold sum7
 rcases lt7 hk with rfl | rfl | rfl | rfl | rfl | rfl | rfl <;> omega
theorem sum7_le2 (g : Nat -> Nat) {j k : Nat} (hj : j < 7) (hk : k < 7) (h : j ≠ k) : g j + g k <= sum7 g := by
 unfold sum7
 rcases lt7 hj with rfl | rfl | rfl | rfl | rfl | rfl | rfl <;> rcases lt7 hk with rfl | rfl | rfl | rfl | rfl | rfl | rfl <;> first | omega | exact absurd rfl h
theorem sum7_pos {g : Nat -> Nat} (h : 0 < sum7 g) : ∃ k, k < 7 /\ 0 < g k := by
 unfold sum7 at h
 rcases Nat.eq_zero_or_pos (g 0) with h0 | h0
 ·rcases Nat.eq_zero_or_pos (g 1) with h1 | h1
  ·rcases Nat.eq_zero_or_pos (g 2) with h2 | h2
   ·rcases Nat.eq_zero_or_pos (g 3) with h3 | h3
    ·rcases Nat.eq_zero_or_pos (g 4) with h4 | h4
     ·rcases Nat.eq_zero_or_pos (g 5) with h5 | h5
      ·exact ⟨6, by omega, by omega⟩
      ·exact ⟨5, by omega, h5⟩
     ·exact ⟨4, by omega, h4⟩
    ·exact ⟨3, by omega, h3⟩
   ·exact ⟨2, by omega, h2⟩
  ·exact ⟨1, by omega, h1⟩
 ·exact ⟨0, by omega, h0⟩
def pc (K : Nat -> Nat) (k b : Nat) : Bool := decide (K (b * 2 ^ k) ≠ 0 /\ lv (K (b * 2 ^ k)) = k)
def hv (F : Nat -> Nat -> Bool) (K : Nat -> Nat) (u : Nat) : Nat := sum7 fun k => (F k (u / 2 ^ k)).toNat + (pc K k (u / 2 ^ k)).toNat
def ind (k b u : Nat) : Nat := if u / 2 ^ k = b then 1 else 0
structure Inv (nu : Nat) (F : Nat -> Nat -> Bool) (K : Nat -> Nat) (hole : Nat -> Nat) : Prop where
 cov : ∀ u, u < nu -> hv F K u + hole u = 1
 half : ∀ k, k < 6 -> ∀ b, F k b = true -> F k (bud b) = false
 inside : ∀ k, k < 7 -> ∀ b, F k b = true -> b < nu / 2 ^ k
 asks : ∀ u, K u ≠ 0 -> u < nu /\ K u <= 512 /\ u % 2 ^ lv (K u) = 0 /\ u + 2 ^ lv (K u) <= nu
def setF (F : Nat -> Nat -> Bool) (k b : Nat) (v : Bool) : Nat -> Nat -> Bool := fun j c => if j = k /\ c = b then v else F j c
def setK (K : Nat -> Nat) (u x : Nat) : Nat -> Nat := fun v => if v = u then x else K v
section
variable {nu : Nat} {F : Nat -> Nat -> Bool} {K : Nat -> Nat} {hole : Nat -> Nat} {k b u : Nat}
theorem setF_same (v : Bool) : setF F k b v k b = v := by simp [setF]
theorem setF_other {j c : Nat} (v : Bool) (h : ¬ (j = k /\ c = b)) : setF F k b v j c = F j c := by simp [setF, h]
theorem block_lt (hb : b < nu / 2 ^ k) : b * 2 ^ k + 2 ^ k <= nu := by
 have h1 : (b + 1) * 2 ^ k <= nu / 2 ^ k * 2 ^ k := Nat.mul_le_mul_right _ hb
 have h2 := Nat.div_mul_le_self nu (2 ^ k)
 rw [Nat.add_mul, Nat.one_mul] at h1
 omega
theorem two_pos (k : Nat) : 0 < 2 ^ k := Nat.pow_pos (by omega)
theorem block_self (k b : Nat) : b * 2 ^ k / 2 ^ k = b := Nat.mul_div_cancel _ (two_pos k)
theorem block_in (hb : b < nu / 2 ^ k) : b * 2 ^ k < nu := by have := block_lt hb; have := two_pos k; omega
theorem hv_setF (hk : k < 7) (v : Bool) (u : Nat) : hv (setF F k b v) K u + (if u / 2 ^ k = b then (F k b).toNat else 0) = hv F K u + (if u / 2 ^ k = b then v.toNat else 0) := by
 by_cases h : u / 2 ^ k = b
 ·rw [if_pos h, if_pos h]
  have := sum7_one (g := fun k' => (setF F k b v k' (u / 2 ^ k')).toNat + (pc K k' (u / 2 ^ k')).toNat) (h := fun k' => (F k' (u / 2 ^ k')).toNat + (pc K k' (u / 2 ^ k')).toNat) hk (fun j hj => by
   rw [setF_other v (fun e => hj e.1)])
  simp only [h, setF_same] at this
  unfold hv
  omega
 ·rw [if_neg h, if_neg h]
  congr 1
  refine sum7_congr fun j _ => ?_
  rw [setF_other v (by rintro ⟨rfl, e⟩; exact h e)]
theorem Inv.clear (h : Inv nu F K hole) (hk : k < 7) (hf : F k b = true) : Inv nu (setF F k b false) K (fun u => hole u + ind k b u) where
 cov := fun u hu => by
  have h1 := hv_setF (K := K) (F := F) (b := b) hk false u
  have h2 := h.cov u hu
  rw [hf] at h1
  show _ + (hole u + ind k b u) = 1
  unfold ind
  by_cases e : u / 2 ^ k = b
  ·rw [if_pos e] at h1 ⊢; rw [if_pos e] at h1; simp at h1; omega
  ·rw [if_neg e] at h1 ⊢; rw [if_neg e] at h1; omega
 half := fun j hj c hc => by
  by_cases e : j = k /\ c = b
  ·rw [e.1, e.2, setF_same] at hc; cases hc
  ·rw [setF_other _ e] at hc
   by_cases e2 : j = k /\ bud c = b
   ·rw [e2.1, e2.2, setF_same]
   ·rw [setF_other _ e2]; exact h.half j hj c hc
 inside := fun j hj c hc => by
  by_cases e : j = k /\ c = b
  ·rw [e.1, e.2, setF_same] at hc; cases hc
  ·rw [setF_other _ e] at hc; exact h.inside j hj c hc
 asks := h.asks
theorem Inv.none (h : Inv nu F K hole) {u : Nat} (hu : u < nu) (hh : hole u = 1) (hk : k < 7) : F k (u / 2 ^ k) = false /\ pc K k (u / 2 ^ k) = false := by
 have h1 := h.cov u hu
 have h2 : hv F K u = 0 := by omega
 have h3 := sum7_le (fun k => (F k (u / 2 ^ k)).toNat + (pc K k (u / 2 ^ k)).toNat) hk
 unfold hv at h2
 have h4 : (F k (u / 2 ^ k)).toNat + (pc K k (u / 2 ^ k)).toNat = 0 := by omega
 constructor
 ·cases e : F k (u / 2 ^ k)
  ·rfl
  ·rw [e] at h4; simp at h4
 ·cases e : pc K k (u / 2 ^ k)
  ·rfl
  ·rw [e] at h4; simp at h4
theorem Inv.set {hole' : Nat -> Nat} (h : Inv nu F K hole) (hk : k < 7) (hb : b < nu / 2 ^ k) (hh : ∀ u, u < nu -> hole u = hole' u + ind k b u) (hl : ∀ u, u < nu -> u / 2 ^ k = b -> hole' u = 0) (ho : k = 6 \/ F k (bud b) = false) : Inv nu (setF F k b true) K hole' where
 cov := fun u hu => by
  have h1 := hv_setF (K := K) (F := F) (b := b) hk true u
  have h2 := h.cov u hu
  have h3 := hh u hu
  unfold ind at h3
  by_cases e : u / 2 ^ k = b
  ·have h4 := (h.none (k := k) hu (by rw [h3, hl u hu e, if_pos e]) hk).1
   rw [e] at h4
   rw [if_pos e, if_pos e, h4] at h1
   rw [if_pos e] at h3
   simp at h1
   omega
  ·rw [if_neg e, if_neg e] at h1
   rw [if_neg e] at h3
   omega
 half := fun j hj c hc => by
  by_cases e : j = k /\ c = b
  ·rw [e.1, e.2, setF_other _ (fun x => bud_ne b x.2)]
   rcases ho with rfl | ho
   ·omega
   ·exact ho
  ·rw [setF_other _ e] at hc
   by_cases e2 : j = k /\ bud c = b
   ·obtain ⟨rfl, rfl⟩ := e2
    rcases ho with rfl | ho
    ·omega
    ·rw [bud_bud] at ho; rw [ho] at hc; cases hc
   ·rw [setF_other _ e2]; exact h.half j hj c hc
 inside := fun j hj c hc => by
  by_cases e : j = k /\ c = b
  ·rw [e.1, e.2]; exact hb
  ·rw [setF_other _ e] at hc; exact h.inside j hj c hc
 asks := h.asks
theorem Inv.unasked (h : Inv nu F K hole) {u : Nat} (hu : u < nu) (hh : hole u = 1) : K u = 0 := by
 refine Classical.byContradiction fun hn => ?_
 obtain ⟨_, _, h3, _⟩ := h.asks u hn
 have h4 := (h.none (k := lv (K u)) hu hh (by have := lv_le (K u); omega)).2
 unfold pc at h4
 have h5 : u / 2 ^ lv (K u) * 2 ^ lv (K u) = u := Nat.div_mul_cancel (Nat.dvd_of_mod_eq_zero h3)
 rw [h5] at h4
 simp at h4
 exact hn h4
theorem pc_setK {x j c : Nat} (hx : lv x = k) (h0 : x ≠ 0) : pc (setK K (b * 2 ^ k) x) j c = if c * 2 ^ j = b * 2 ^ k then decide (j = k) else pc K j c := by
 unfold pc setK
 by_cases e : c * 2 ^ j = b * 2 ^ k
 ·rw [if_pos e]
  simp only [if_pos e]
  rw [decide_eq_decide, hx]
  exact ⟨fun y => y.2.symm, fun y => ⟨h0, y.symm⟩⟩
 ·rw [if_neg e]
  simp only [if_neg e]
theorem Inv.lay {hole' : Nat -> Nat} {x : Nat} (h : Inv nu F K hole) (hb : b < nu / 2 ^ k) (hx : lv x = k) (h0 : x ≠ 0) (h5 : x <= 512) (hh : ∀ u, u < nu -> hole u = hole' u + ind k b u) (hl : ∀ u, u < nu -> u / 2 ^ k = b -> hole' u = 0) : Inv nu F (setK K (b * 2 ^ k) x) hole' where
 cov := fun u hu => by
  have hk : k < 7 := by have := lv_le x; omega
  have hin := block_in hb
  have K0 : K (b * 2 ^ k) = 0 := h.unasked hin (by rw [hh _ hin, hl _ hin (block_self k b)]; unfold ind; rw [if_pos (block_self k b)])
  have h2 := h.cov u hu
  have h3 := hh u hu
  have pc0 : ∀ j c, c * 2 ^ j = b * 2 ^ k -> pc K j c = false := fun j c e => by unfold pc; rw [e, K0]; simp
  by_cases e : u / 2 ^ k = b
  ·have h1 := sum7_one (g := fun k' => (F k' (u / 2 ^ k')).toNat + (pc (setK K (b * 2 ^ k) x) k' (u / 2 ^ k')).toNat) (h := fun k' => (F k' (u / 2 ^ k')).toNat + (pc K k' (u / 2 ^ k')).toNat) hk (fun j hj => by
    rw [pc_setK hx h0]
    split
    ·rename_i e'; rw [pc0 _ _ e']; simp [hj]
    ·rfl)
   simp only [e, pc_setK hx h0, if_true, pc0 k b rfl] at h1
   rw [hl u hu e] at h3 ⊢
   unfold ind at h3
   rw [if_pos e] at h3
   unfold hv at h2 ⊢
   simp at h1
   simp only [pc_setK hx h0]
   omega
  ·have h1 : hv F (setK K (b * 2 ^ k) x) u = hv F K u := by
    refine sum7_congr fun j _ => ?_
    rw [pc_setK hx h0]
    split
    ·rename_i e'
     rw [pc0 _ _ e']
     by_cases hj : j = k
     ·subst hj
      exact absurd (Nat.eq_of_mul_eq_mul_right (two_pos j) e') e
     ·simp [hj]
    ·rfl
   unfold ind at h3
   rw [if_neg e] at h3
   omega
 half := h.half
 inside := h.inside
 asks := fun u hu => by
  by_cases e : u = b * 2 ^ k
  ·have : setK K (b * 2 ^ k) x u = x := by simp [setK, e]
   rw [this, hx, e]
   refine ⟨block_in hb, h5, Nat.mul_mod_left _ _, block_lt hb⟩
  ·have : setK K (b * 2 ^ k) x u = K u := by simp [setK, e]
   rw [this] at hu ⊢
   exact h.asks u hu
theorem Inv.lift (h : Inv nu F K (fun _ => 0)) (hu : K u ≠ 0) : Inv nu F (setK K u 0) (ind (lv (K u)) (u / 2 ^ lv (K u))) /\ u / 2 ^ lv (K u) < nu / 2 ^ lv (K u) /\ u / 2 ^ lv (K u) * 2 ^ lv (K u) = u := by
 obtain ⟨a1, a2, a3, a4⟩ := h.asks u hu
 have hk : lv (K u) < 7 := by have := lv_le (K u); omega
 obtain ⟨k, hkk⟩ : ∃ k, lv (K u) = k := ⟨_, rfl⟩
 obtain ⟨b, hb⟩ : ∃ b, u / 2 ^ k = b := ⟨_, rfl⟩
 have ub : b * 2 ^ k = u := by rw [<- hb, <- hkk]; exact Nat.div_mul_cancel (Nat.dvd_of_mod_eq_zero a3)
 rw [hkk] at hk a3 a4 ⊢
 rw [hb]
 have p1 : ∀ j c, pc (setK K u 0) j c = if c * 2 ^ j = u then false else pc K j c := by
  intro j c
  unfold pc setK
  by_cases e : c * 2 ^ j = u
  ·rw [if_pos e]; simp [e]
  ·rw [if_neg e]; simp only [if_neg e]
 have p2 : ∀ j c, c * 2 ^ j = u -> pc K j c = decide (j = k) := by
  intro j c e
  unfold pc
  rw [e, hkk, decide_eq_decide]
  exact ⟨fun y => y.2.symm, fun y => ⟨hu, y.symm⟩⟩
 refine ⟨⟨fun v hv' => ?_, h.half, h.inside, fun v hv' => ?_⟩, ?_, ub⟩
 ·have h2 : hv F K v + 0 = 1 := h.cov v hv'
  unfold ind
  by_cases e : v / 2 ^ k = b
  ·have h1 := sum7_one (g := fun k' => (F k' (v / 2 ^ k')).toNat + (pc (setK K u 0) k' (v / 2 ^ k')).toNat) (h := fun k' => (F k' (v / 2 ^ k')).toNat + (pc K k' (v / 2 ^ k')).toNat) hk (fun j hj => by
    rw [p1]
    split
    ·rename_i e'; rw [p2 _ _ e']; simp [hj]
    ·rfl)
   simp only [e, p1, ub, if_true, p2 k b ub] at h1
   rw [if_pos e]
   unfold hv at h2 ⊢
   simp only [decide_true, Bool.toNat_true, Bool.toNat_false] at h1
   simp only [p1]
   omega
  ·have h1 : hv F (setK K u 0) v = hv F K v := by
    refine sum7_congr fun j _ => ?_
    rw [p1]
    split
    ·rename_i e'
     rw [p2 _ _ e']
     by_cases hj : j = k
     ·subst hj
      rw [<- ub] at e'
      exact absurd (Nat.eq_of_mul_eq_mul_right (two_pos j) e') e
     ·simp [hj]
    ·rfl
   rw [if_neg e]
   omega
 ·by_cases e : v = u
  ·simp [setK, e] at hv'
  ·have : setK K u 0 v = K v := by simp [setK, e]
   rw [this] at hv' ⊢
   exact h.asks v hv'
 ·rw [Nat.lt_div_iff_mul_lt (two_pos k)]
  have := two_pos k
  omega
end
end

section
def sumTo (g : Nat -> Nat) : Nat -> Nat
 | 0 => 0
 | n + 1 => sumTo g n + g n
theorem sumTo_congr {g h : Nat -> Nat} {n : Nat} (e : ∀ u, u < n -> g u = h u) : sumTo g n = sumTo h n := by
 induction n with
 | zero => rfl
 | succ n ih => unfold sumTo; rw [ih (fun u hu => e u (by omega)), e n (by omega)]
theorem sumTo_add (g h : Nat -> Nat) (n : Nat) : sumTo (fun u => g u + h u) n = sumTo g n + sumTo h n := by
 induction n with
 | zero => rfl
 | succ n ih => simp only [sumTo, ih]; omega
theorem sumTo_le {g h : Nat -> Nat} {n : Nat} (e : ∀ u, u < n -> g u <= h u) : sumTo g n <= sumTo h n := by
 induction n with
 | zero => exact Nat.le_refl _
 | succ n ih => simp only [sumTo]; have := ih (fun u hu => e u (by omega)); have := e n (by omega); omega
theorem sumTo_one (n : Nat) : sumTo (fun _ => 1) n = n := by
 induction n with
 | zero => rfl
 | succ n ih => simp only [sumTo, ih]
theorem sumTo_zero {g : Nat -> Nat} {n : Nat} (e : ∀ u, u < n -> g u = 0) : sumTo g n = 0 := by
 induction n with
 | zero => rfl
 | succ n ih => simp only [sumTo]; rw [ih (fun u hu => e u (by omega)), e n (by omega)]
theorem sumTo_point {g : Nat -> Nat} {n u : Nat} (hu : u < n) (e : ∀ v, v < n -> v ≠ u -> g v = 0) : sumTo g n = g u := by
 induction n with
 | zero => omega
 | succ n ih =>
  simp only [sumTo]
  by_cases h : u = n
  ·subst h
   rw [sumTo_zero (fun v hv => e v (by omega) (by omega))]; omega
  ·rw [ih (by omega) (fun v hv hne => e v (by omega) hne), e n (by omega) (fun x => h x.symm)]; omega
theorem ind_iff (k b u : Nat) : ind k b u = if b * 2 ^ k <= u /\ u < b * 2 ^ k + 2 ^ k then 1 else 0 := by
 unfold ind
 have hp := two_pos k
 by_cases h : u / 2 ^ k = b
 ·rw [if_pos h, if_pos]
  rw [Nat.div_eq_iff hp] at h
  have h1 : b * 2 ^ k <= u := h.1
  have h2 := h.2
  omega
 ·rw [if_neg h, if_neg]
  rintro ⟨h1, h2⟩
  refine h ?_
  rw [Nat.div_eq_iff hp]
  exact ⟨h1, by omega⟩
theorem sumTo_ind (k b n : Nat) : sumTo (ind k b) n = min (n - b * 2 ^ k) (2 ^ k) := by
 induction n with
 | zero => simp [sumTo]
 | succ n ih =>
  simp only [sumTo, ih]
  rw [ind_iff]
  generalize b * 2 ^ k = x
  have := two_pos k
  generalize 2 ^ k = y at *
  split <;> omega
theorem sum_block {nu k b : Nat} (hb : b < nu / 2 ^ k) : sumTo (ind k b) nu = 2 ^ k := by
 rw [sumTo_ind]
 have := block_lt hb
 omega
def cv (K : Nat -> Nat) (u : Nat) : Nat := sum7 fun k => (pc K k (u / 2 ^ k)).toNat
def inP (nu : Nat) (K : Nat -> Nat) : Nat := sumTo (cv K) nu
def cnt (nu : Nat) (K : Nat -> Nat) : Nat := sumTo (fun u => if K u = 0 then 0 else 1) nu
theorem sum7_add (g h : Nat -> Nat) : sum7 (fun k => g k + h k) = sum7 g + sum7 h := by simp only [sum7]; omega
theorem hv_cv (F : Nat -> Nat -> Bool) (K : Nat -> Nat) (u : Nat) : hv F K u = sum7 (fun k => (F k (u / 2 ^ k)).toNat) + cv K u := by
 unfold hv cv
 exact sum7_add (fun k => (F k (u / 2 ^ k)).toNat) (fun k => (pc K k (u / 2 ^ k)).toNat)
section
variable {nu : Nat} {F : Nat -> Nat -> Bool} {K : Nat -> Nat} {hole : Nat -> Nat} {k b u x : Nat}
theorem Inv.room (h : Inv nu F K hole) : inP nu K <= nu := by
 have : inP nu K <= sumTo (fun _ => 1) nu := sumTo_le fun u hu => by have := h.cov u hu; rw [hv_cv] at this; omega
 rwa [sumTo_one] at this
theorem cv_lay (hb : b < nu / 2 ^ k) (hx : lv x = k) (h0 : x ≠ 0) (hK : K (b * 2 ^ k) = 0) (u : Nat) : cv (setK K (b * 2 ^ k) x) u = cv K u + ind k b u := by
 have hk : k < 7 := by have := lv_le x; omega
 have pc0 : ∀ j c, c * 2 ^ j = b * 2 ^ k -> pc K j c = false := fun j c e => by unfold pc; rw [e, hK]; simp
 unfold ind
 by_cases e : u / 2 ^ k = b
 ·have h1 := sum7_one (g := fun k' => (pc (setK K (b * 2 ^ k) x) k' (u / 2 ^ k')).toNat) (h := fun k' => (pc K k' (u / 2 ^ k')).toNat) hk (fun j hj => by
   rw [pc_setK hx h0]
   split
   ·rename_i e'; rw [pc0 _ _ e']; simp [hj]
   ·rfl)
  simp only [e, pc_setK hx h0, if_true, pc0 k b rfl, decide_true, Bool.toNat_true, Bool.toNat_false] at h1
  rw [if_pos e]
  unfold cv
  simp only [pc_setK hx h0]
  omega
 ·rw [if_neg e, Nat.add_zero]
  refine sum7_congr fun j _ => ?_
  rw [pc_setK hx h0]
  split
  ·rename_i e'
   rw [pc0 _ _ e']
   by_cases hj : j = k
   ·subst hj
    exact absurd (Nat.eq_of_mul_eq_mul_right (two_pos j) e') e
   ·simp [hj]
  ·rfl
theorem inP_lay (hb : b < nu / 2 ^ k) (hx : lv x = k) (h0 : x ≠ 0) (hK : K (b * 2 ^ k) = 0) : inP nu (setK K (b * 2 ^ k) x) = inP nu K + 2 ^ k := by
 unfold inP
 rw [sumTo_congr (fun u _ => cv_lay hb hx h0 hK u), sumTo_add, sum_block hb]
theorem setK_back (K : Nat -> Nat) (u : Nat) : setK (setK K u 0) u (K u) = K := by
 funext v
 unfold setK
 split
 ·rename_i e; rw [e]
 ·rfl
theorem inP_lift (h : Inv nu F K (fun _ => 0)) (hu : K u ≠ 0) : inP nu (setK K u 0) + 2 ^ lv (K u) = inP nu K := by
 obtain ⟨_, h2, h3⟩ := h.lift hu
 have := inP_lay (K := setK K u 0) (x := K u) h2 rfl hu (by rw [h3]; simp [setK])
 rw [h3, setK_back] at this
 exact this.symm
theorem cnt_set (hu : u < nu) (x : Nat) : cnt nu (setK K u x) + (if K u = 0 then 0 else 1) = cnt nu K + (if x = 0 then 0 else 1) := by
 unfold cnt
 have h1 := sumTo_add (fun v => if setK K u x v = 0 then 0 else 1) (fun v => if v = u then (if K u = 0 then 0 else 1) else 0) nu
 have h2 := sumTo_add (fun v => if K v = 0 then 0 else 1) (fun v => if v = u then (if x = 0 then 0 else 1) else 0) nu
 rw [sumTo_point (g := fun v => if v = u then (if K u = 0 then 0 else 1) else 0) hu (fun v _ hv => by simp [hv])] at h1
 rw [sumTo_point (g := fun v => if v = u then (if x = 0 then 0 else 1) else 0) hu (fun v _ hv => by simp [hv])] at h2
 simp only [if_true] at h1 h2
 rw [<- h1, <- h2]
 refine sumTo_congr fun v _ => ?_
 by_cases e : v = u
 ·subst e; simp [setK]; omega
 ·simp [setK, e]
end
end
end Go.Proofs.YtbpndmghlnadiaaGreatDoor
