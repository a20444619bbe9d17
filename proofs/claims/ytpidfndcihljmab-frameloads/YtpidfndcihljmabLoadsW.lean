/- FrameLoads. -/
import Derived.Test.YtpidfndcihljmabInP
import Derived.Test.YtpidfndcihljmabYk
import Derived.Deep.Cut
import Derived.Deep.RegionLaw
namespace Go.Proofs.Ytpidfndcihljmab
open Go.RowKit

/-- The letter of a line. -/
def lch (i : Nat) : UInt8 := UInt8.ofNat (97 + i % 26)
theorem lch_nat (i : Nat) : (lch i).toNat = 97 + i % 26 := by
  have : i % 26 < 26 := Nat.mod_lt _ (by omega)
  simp [lch, Nat.mod_eq_of_lt (show 97 + i % 26 < 256 by omega)]
theorem lch_ne (i : Nat) (c : UInt8) (h : c.toNat < 97) : lch i ≠ c := fun e => by
  have := lch_nat i
  rw [e] at this
  omega
/-- A line and its payload. -/
def recL (Z : Nat → List UInt8) (i : Nat) : List UInt8 := 120 :: lch i :: 10 :: (Z i ++ [10])
def allL (Z : Nat → List UInt8) : Nat → List UInt8
  | 0 => []
  | i + 1 => allL Z i ++ recL Z i
def offL (Z : Nat → List UInt8) (i : Nat) : Nat := (allL Z i).length
theorem offL_succ (Z : Nat → List UInt8) (i : Nat) : offL Z (i + 1) = offL Z i + ((Z i).length + 4) := by
  simp [offL, allL, recL]
theorem offL_le (Z : Nat → List UInt8) (n : Nat) (h : ∀ i, i < n → (Z i).length ≤ 300) : offL Z n ≤ 304 * n := by
  induction n with
  | zero => simp [offL, allL]
  | succ n ih =>
    have h1 := ih fun i hi => h i (by omega)
    have h2 := h n (by omega)
    rw [offL_succ]
    omega
theorem allL_part (Z : Nat → List UInt8) (t : Nat) : ∀ d, ∃ R, allL Z (t + 1 + d) = allL Z t ++ (recL Z t ++ R) ∧ (allL Z (t + 1 + d)).drop (offL Z (t + 1)) = R
  | 0 => ⟨[], by simp [allL], by simp [offL, allL]⟩
  | d + 1 => by
    obtain ⟨R, h1, h2⟩ := allL_part Z t d
    refine ⟨R ++ recL Z (t + 1 + d), ?_, ?_⟩
    · show allL Z (t + 1 + d) ++ _ = _
      rw [h1]
      simp
    · show (allL Z (t + 1 + d) ++ _).drop _ = _
      have hle : offL Z (t + 1) ≤ (allL Z (t + 1 + d)).length := by
        rw [h1]
        simp [offL, allL]
      rw [List.drop_append_of_le_length hle, h2]
      rfl
/-- What is behind the t-th's beginning. -/
theorem drop_at (Z : Nat → List UInt8) (t n : Nat) (h : t < n) : ∃ R, (allL Z n).drop (offL Z t) = recL Z t ++ R ∧ (allL Z n).drop (offL Z (t + 1)) = R ∧ offL Z (t + 1) + R.length = offL Z n := by
  obtain ⟨d, rfl⟩ : ∃ d, n = t + 1 + d := ⟨n - t - 1, by omega⟩
  obtain ⟨R, h1, h2⟩ := allL_part Z t d
  refine ⟨R, ?_, h2, ?_⟩
  · rw [h1]
    show List.drop (allL Z t).length _ = _
    rw [List.drop_left]
  · have := congrArg List.length h1
    rw [List.length_append, List.length_append] at this
    have h3 : offL Z (t + 1) = (allL Z t).length + (recL Z t).length := by simp [offL, allL]
    unfold offL at h3 ⊢
    omega
/-- What waits: the bytes from p on of the first q. -/
def winL (D : List UInt8) (p q : Nat) : List UInt8 := (D.take q).drop p
theorem win_eq (D : List UInt8) (p q : Nat) : winL D p q = (D.drop p).take (q - p) := by unfold winL; rw [List.drop_take]
theorem win_len (D : List UInt8) (p q : Nat) (hq : q ≤ D.length) : (winL D p q).length = q - p := by
  unfold winL
  rw [List.length_drop, List.length_take]
  omega
theorem win_feed (D : List UInt8) (p q r : Nat) (hp : p ≤ q) (hqr : q ≤ r) (hr : r ≤ D.length) : winL D p q ++ (D.take r).drop q = winL D p r := by
  unfold winL
  conv => rhs; rw [← List.take_append_drop q (D.take r)]
  rw [List.take_take, Nat.min_eq_left hqr, List.drop_append_of_le_length (by rw [List.length_take]; omega)]
/-- Line, where the t-th's line is ahead. -/
theorem load_line (Z : Nat → List UInt8) (t n q : Nat) (h : t < n) (hq : q ≤ offL Z n) (hp : offL Z t ≤ q) :
    (offL Z t + 3 ≤ q ∧ lineR (winL (allL Z n) (offL Z t) q) false = (([120, lch t], true, 0), winL (allL Z n) (offL Z t + 3) q, false)) ∨
    (q < offL Z t + 3 ∧ lineR (winL (allL Z n) (offL Z t) q) false = (([], false, 0), winL (allL Z n) (offL Z t) q, false)) := by
  obtain ⟨R, h1, h2, h3⟩ := drop_at Z t n h
  have hne : ∀ x ∈ [120, lch t], x ≠ 10 := by
    intro x hx
    rcases List.mem_cons.1 hx with rfl | hx
    · decide
    · rcases List.mem_cons.1 hx with rfl | hx
      · exact lch_ne t 10 (by decide)
      · cases hx
  by_cases h3q : offL Z t + 3 ≤ q
  · refine .inl ⟨h3q, ?_⟩
    have e1 : winL (allL Z n) (offL Z t) q = [120, lch t] ++ 10 :: winL (allL Z n) (offL Z t + 3) q := by
      rw [win_eq, win_eq, h1, ← List.drop_drop, h1]
      obtain ⟨j, hj⟩ : ∃ j, q - offL Z t = j + 3 := ⟨q - offL Z t - 3, by omega⟩
      rw [hj, show q - (offL Z t + 3) = j by omega]
      rfl
    have hc : cut13 [120, lch t] = [120, lch t] := by
      unfold cut13
      rw [if_neg]
      rintro ⟨_, h⟩
      exact lch_ne t 13 (by decide) h
    rw [e1, lineR_app _ _ _ hne, hc, if_pos (by simp)]
  · refine .inr ⟨by omega, ?_⟩
    have hl := win_len (allL Z n) (offL Z t) q hq
    have hno : ∀ x ∈ winL (allL Z n) (offL Z t) q, x ≠ 10 := by
      intro x hx
      refine hne x ?_
      rw [win_eq, h1] at hx
      have : (recL Z t ++ R).take (q - offL Z t) = ([120, lch t] : List UInt8).take (q - offL Z t) := by
        unfold recL
        rcases (show q - offL Z t = 0 ∨ q - offL Z t = 1 ∨ q - offL Z t = 2 by omega) with e | e | e <;> rw [e] <;> rfl
      rw [this] at hx
      exact List.mem_of_mem_take hx
    rw [lineR_none _ _ hno, if_neg (by omega)]
/-- Payload, where the t-th's is ahead. -/
theorem load_pay (Z : Nat → List UInt8) (t n q : Nat) (h : t < n) (hq : q ≤ offL Z n) (hp : offL Z t + 3 ≤ q) :
    (offL Z (t + 1) ≤ q ∧ (Z t).length < (winL (allL Z n) (offL Z t + 3) q).length ∧ (winL (allL Z n) (offL Z t + 3) q).take (Z t).length = Z t ∧ (winL (allL Z n) (offL Z t + 3) q).drop (plN (winL (allL Z n) (offL Z t + 3) q) (Z t).length) = winL (allL Z n) (offL Z (t + 1)) q) ∨
    (q < offL Z (t + 1) ∧ (winL (allL Z n) (offL Z t + 3) q).length ≤ (Z t).length) := by
  obtain ⟨R, h1, h2, h3⟩ := drop_at Z t n h
  have hl := win_len (allL Z n) (offL Z t + 3) q hq
  have hs := offL_succ Z t
  have e1 : winL (allL Z n) (offL Z t + 3) q = (Z t ++ 10 :: R).take (q - (offL Z t + 3)) := by
    rw [win_eq, ← List.drop_drop, h1]
    congr 1
    simp [recL]
  by_cases h4 : offL Z (t + 1) ≤ q
  · refine .inl ⟨h4, by omega, ?_, ?_⟩
    · rw [e1, List.take_take, Nat.min_eq_left (by omega), List.take_left' rfl]
    · have e2 : winL (allL Z n) (offL Z t + 3) q = Z t ++ 10 :: R.take (q - offL Z (t + 1)) := by
        rw [e1, List.take_append, List.take_of_length_le (by omega)]
        rw [show q - (offL Z t + 3) - (Z t).length = (q - offL Z (t + 1)) + 1 by omega]
        rfl
      have e3 : plN (winL (allL Z n) (offL Z t + 3) q) (Z t).length = (Z t).length + 1 := by
        unfold plN
        rw [e2, if_pos (by simp)]
      rw [e3, e2, win_eq, h2]
      simp
  · exact .inr ⟨by omega, by omega⟩
/-- A Framer beside a row of bytes. -/
structure Ld (W w : World) (f : Nat) (g : Option Nat) (l : List UInt8) (N : Nat) (v : Value) (D : List UInt8) : Prop where
  fs : Fs W w f g l false 0 N
  row : Own w W.heap.size v D
  ap : ∀ k, v.ownBlock = some k → k ≠ f ∧ g ≠ some k
theorem Ld.step {W w w' : World} {f : Nat} {g g' : Option Nat} {l l' : List UInt8} {N N' : Nat} {v : Value} {D : List UInt8} (h : Ld W w f g l N v D) (x : Fx w w' f g l' false 0 N' g') : Ld W w' f g' l' N' v D :=
  ⟨h.fs.step x, owns_same h.row fun k hk => x.fr.block k (h.row.lt k hk).2 (fun e => by
    rcases e with e | e
    · exact (h.ap k hk).1 e
    · exact (h.ap k hk).2 e), fun k hk => ⟨(h.ap k hk).1, fun e => by
    rcases x.ng k e with e2 | e2
    · exact (h.ap k hk).2 e2
    · have := (h.row.lt k hk).2; omega⟩⟩
theorem Ld.still {W w w' : World} {f : Nat} {g : Option Nat} {l : List UInt8} {N : Nat} {v : Value} {D : List UInt8} (h : Ld W w f g l N v D) (x : Still w w') : Ld W w' f g l N v D :=
  ⟨h.fs.still x, owns_same h.row fun k hk => x.block k (h.row.lt k hk).2 (fun e => e), h.ap⟩
theorem step_cat {ops : Array Oper} {o : Oper} {a : Act} {w : World} {K : Act → World → Prop} {Q : Exit → Act → World → Prop} {E : Prop} (hgd : o.guard = none) (s x : Operand)
    (ho : o.op = .call { callee := .builtin .append, args := #[s, x], argTypes := #[25, 25] }) (ht : o.type = 25) (base : Nat) (v : Value) (l : List UInt8) (hs : a.eval s = v) (hown : Own w base v l) (xa : Option Addr) (xl xc : Nat) (m : List UInt8) (hx : a.eval x = .slice xa xl xc) (hsl : Sl w xa xl xc m) (hl : l.length + m.length ≤ 100000000) (hb : base ≤ w.heap.size)
    (h : ∀ v' w', Own w' base v' (l ++ m) → Fr (fun k => v.ownBlock = some k) w w' → (v'.ownBlock = v.ownBlock ∨ v'.ownBlock = some w.heap.size) → K (a.put o.dst v') w') : if Region.wanted o (yielded ops a.tmps) = true then Oper.wp Try.prog o a w K Q else E := by
  obtain ⟨v', w', hr, o', r', b'⟩ := run_cat w base v l hown xa xl xc m hsl.rd hsl.len (fun e => by have := hsl.nil e; have := hsl.le; omega) (by omega) hb
  rw [if_pos (by simp [Region.wanted, hgd])]
  unfold Oper.wp execOp
  simp only [ho, resolve, invoke, builtin, Sem.run_bind, Sem.run_pure, Result.andThen_ok, List.map_toArray, List.map_cons, List.map_nil, hs, hx, ht, hr]
  exact h v' w' o' r' b'
/-- One operation of a region that is written out is taken first. -/
theorem take_l {P : Program} {Q : Exit → Act → World → Prop} {md : Region.Mode} {S : World → Prop} {os : List Oper} (i : Nat) {oi : Oper} {v : Value} {fuel : Nat} {listed : Array Bool} {a : Act} {w : World} (hi : os[i]? = some oi)
    (hs : Region.noSelect os.toArray = true) (hf : Region.free md os.toArray listed i = true) (hr : (Region.ready md os.toArray listed).contains i = true)
    (hQ : ∀ c a w, Q (.panic c) (a.put oi.dst v) w → Q (.panic c) a w) (hy : YieldsIf P os.toArray S oi v a) (hS : S w)
    (h : wpAnyH P md os.toArray Q S fuel (listed.setIfInBounds i true) (a.put oi.dst v) w) : wpAnyH P md os.toArray Q S (fuel + 1) listed a w :=
  wpAnyH_take (i := i) (oi := oi) (by simpa using hi) hs hf hr hQ hy hS h
/-- How many bytes were fed when the i-th round begins. -/
def fedN (slow : Bool) (NL i : Nat) : Nat := if slow then min i NL else if i = 0 then 0 else NL
theorem fedN_le (slow : Bool) (NL i : Nat) : fedN slow NL i ≤ NL := by
  unfold fedN
  split
  · omega
  · split <;> omega
theorem slice_mid (a : Option Addr) (len cap l h : Nat) (k k' : IntKind) (w : World) (hlh : l ≤ h) (hh : h ≤ cap) : (Instr.slice 25 (.slice a len cap) (some (.int k (l : Nat))) (some (.int k' (h : Nat))) none).run Try.prog w = .ok (.slice (cutA a cap l) (h - l) (cap - l)) w := by
  obtain ⟨i, hi, hzz⟩ := Option.map_eq_some_iff.1 infoB
  simp only [Prod.mk.injEq] at hzz
  have he : Try.prog.elem 25 = 5 := by kernel_rfl
  have hs : (sizeOf 5).run Try.prog w = .ok 1 w := by simp [sizeOf, typeInfo, hi, hzz.2.1]
  rw [run_slice_lh (P := Try.prog) w 25 a len cap (by rw [he]; exact Try.underlying25) k k' (l : Nat) (h : Nat) (by omega) (by omega) (by omega), he, hs]
  simp [Result.andThen, sliced, cutA]
theorem Own.slV {w : World} {base : Nat} {pa : Option Addr} {pn pc : Nat} {l : List UInt8} (h : Own w base (.slice pa pn pc) l) : Sl w pa pn pc l ∧ (∀ x, pa = some x → Value.ownBlock (.slice pa pn pc) = some x.block) ∧ ∀ x, pa = some x → ∃ b o, x = ⟨b, o, none⟩ := by
  obtain ⟨a, cap, h1, h2, h3, h4, h5, h6⟩ := h.rd
  injection h1 with e1 e2 e3
  subst e1 e2 e3
  refine ⟨⟨rfl, h2, h3, fun e => (h5 e).1, fun x e _ => h6 x e⟩, fun x e => ?_, h6⟩
  obtain ⟨b, o, rfl⟩ := h6 x e
  exact (h4 b o e).2.2.1
theorem feed_win (D : List UInt8) (p q r : Nat) (m : List UInt8) (hm : m = (D.take r).drop q) (hp : p ≤ q) (hqr : q ≤ r) (hr : r ≤ D.length) : feedR (winL D p q) false 0 m = (winL D p r, false, 0) := by
  subst hm
  show (winL D p q ++ ((D.take r).drop q).drop 0, false, 0 - ((D.take r).drop q).length) = _
  rw [List.drop_zero, win_feed D p q r hp hqr hr, Nat.zero_sub]
/-- Where what waits begins. -/
def posL (Z : Nat → List UInt8) (t : Nat) (ln : Bool) : Nat := offL Z t + (if ln then 0 else 3)
theorem offL_mono (Z : Nat → List UInt8) (t m : Nat) (h : t < m) : offL Z (t + 1) ≤ offL Z m := by
  obtain ⟨R, _, _, h3⟩ := drop_at Z t m h
  omega
set_option maxRecDepth 100000 in
set_option maxHeartbeats 8000000 in
theorem loads_ok (a : Option Addr) (len cap : Nat) (slow : Bool) (A : Nat → Option Addr) (L C : Nat → Nat) (Z : Nat → List UInt8) (W : World) (hP : PartsAt W a len A L C Z) (hlm : len ≤ maxLen) : Calls Try.prog 3 #[.slice a len cap, .bool slow] W fun e w' => e = .returned (.bool true) ∧ Below W.heap.size W w' := by
  have HP := hide hP
  have hlm2 : len ≤ 9223372036854775807 := by unfold maxLen at hlm; omega
  obtain ⟨m, hm⟩ : ∃ m, min len 12 = m := ⟨_, rfl⟩
  have hmi : min (len : Int) 12 = (m : Int) := by omega
  have hm12 : m ≤ 12 := by omega
  have hml : m ≤ len := by omega
  clear hP hlm hm
  go_enter Try.func3, Try.ntmps3
  go_wp2_with fail
  refine (new_ok W).mono ?_
  rintro e w1 ⟨rfl, m1, s1⟩
  have HL0 := hide (And.intro (Fs.new (Fr.refl _ W) s1 m1) (Own.nil w1 w1.heap.size))
  have hf1 : W.heap.size < w1.heap.size := m1.lt.1
  generalize hf : W.heap.size = f at *
  generalize hb0 : w1.heap.size = b0 at *
  clear m1 s1
  go_wp2_with fail
  go_loopw [6, 8] (fun v i wr => ∃ (t : Nat) (pa : Option Addr) (pn pc : Nat), v = .slice pa pn pc ∧ i = iv t ∧ Hid (t ≤ m ∧ (∀ j, j < t → (Z j).length ≤ 300) ∧ Own wr b0 (.slice pa pn pc) (allL Z t) ∧ Fr (fun k => b0 ≤ k) w1 wr)) (fun v i wr => m - (RowKit.intOf i).toNat)
  case atStart => exact ⟨0, none, 0, 0, rfl, rfl, hide ⟨by omega, fun j hj => by omega, (unhide HL0).2, Fr.refl _ _⟩⟩
  case round =>
    obtain ⟨t, pa, pn, pc, rfl, rfl, HI⟩ := hrel
    obtain ⟨i1, i2, i4, i5⟩ := unhide HI
    have i3 : Still W wr := (unhide HL0).1.st.trans' i5 (fun k e => .inr (by omega))
    by_cases h1 : t < m
    · have h1' : (t : Int) < m := by omega
      obtain ⟨⟨xb, xo, e, c0⟩, hsl, hLm⟩ := unhide HP t (by omega)
      subst e
      have hxb : xb < f := by have := World.block_lt_of_cell? W _ c0; rw [← hf]; exact this
      have c0 := i3.cell' c0 (fun x => x)
      have hLl : L t = (Z t).length := hsl.len
      by_cases h3 : (300 : Int) < L t
      · have HST := hide i3
        clear HI i1 i2 i3 i4 i5 hsl
        generalize L t = lt at *
        go_wp2_with fail
        refine (awake_ok _).mono ?_
        rintro e w' ⟨rfl, hs⟩
        have HS := hide hs
        clear hs
        go_wp2_with fail
        go_ret
        exact ⟨rfl, hf ▸ ((unhide HST).trans (unhide HS)).below (by omega) (fun _ h => h.elim)⟩
      · have hZl : (Z t).length ≤ 300 := by omega
        have HLL := hide hLl
        have hoff := offL_le Z t i2
        have hDl : (allL Z t).length ≤ 3648 := by unfold offL at hoff; omega
        have HI2 := hide (And.intro i2 i5)
        have HROW := hide i4
        have hb : b0 ≤ wr.heap.size := by have := i5.size; omega
        have SLW := hide (fun (w : World) (h : Fr (fun k => b0 ≤ k) wr w) => (hsl.still (i3.trans' h (fun k e => .inr (by omega)) : Still W w)))
        have CEL := hide (fun (w : World) (h : Fr (fun k => b0 ≤ k) wr w) => h.cell' c0 (fun e => by
          have e : b0 ≤ xb := e
          omega))
        obtain ⟨D, hD⟩ : ∃ D, allL Z t = D := ⟨_, rfl⟩
        rw [hD] at HROW hDl
        have HD := hide hD
        have ht12 : t < 12 := by omega
        have htl : t < len := by omega
        clear HI i2 i3 i4 i5 hsl hLl hD hoff
        generalize hlt : L t = lt at *
        go_upto_region 11 with fail
        refine wp_region_held_drew (S := fun w' => w'.cell? ⟨xb, xo + t, none⟩ = some (.slice (A t) lt (C t))) (by kernel_rfl) (unhide CEL _ ((Fr.refl _ wr).drewN 1)) (fun hHeld => ?_)
        refine take_l 0 (v := ?_) rfl (by kernel_rfl) (by kernel_rfl) (by kernel_rfl) (fun _ _ _ h => h) (Or.inl ⟨by rfl, ?_⟩) hHeld ?_
        rotate_left
        · (intro w hSw; (try dsimp only at hSw); go_simp; (try with_reducible rfl))
        simp only [Act.put, List.setIfInBounds_toArray, List.set_cons_zero, List.set_cons_succ]
        refine take_l 1 (v := ?_) rfl (by kernel_rfl) (by kernel_rfl) (by kernel_rfl) (fun _ _ _ h => h) (Or.inl ⟨by rfl, ?_⟩) hHeld ?_
        rotate_left
        · (intro w hSw; (try dsimp only at hSw); go_simp; (try with_reducible rfl))
        simp only [Act.put, List.setIfInBounds_toArray, List.set_cons_zero, List.set_cons_succ]
        refine take_l 2 (v := ?_) rfl (by kernel_rfl) (by kernel_rfl) (by kernel_rfl) (fun _ _ _ h => h) (Or.inl ⟨by rfl, ?_⟩) hHeld ?_
        rotate_left
        · (intro w hSw; (try dsimp only at hSw); go_simp; (try with_reducible rfl))
        simp only [Act.put, List.setIfInBounds_toArray, List.set_cons_zero, List.set_cons_succ]
        refine take_l 3 (v := ?_) rfl (by kernel_rfl) (by kernel_rfl) (by kernel_rfl) (fun _ _ _ h => h) (Or.inl ⟨by rfl, ?_⟩) hHeld ?_
        rotate_left
        · (intro w hSw; (try dsimp only at hSw); go_simp; (try with_reducible rfl))
        simp only [Act.put, List.setIfInBounds_toArray, List.set_cons_zero, List.set_cons_succ]
        refine take_l 6 (v := ?_) rfl (by kernel_rfl) (by kernel_rfl) (by kernel_rfl) (fun _ _ _ h => h) (Or.inl ⟨by rfl, ?_⟩) hHeld ?_
        rotate_left
        · (intro w hSw; (try dsimp only at hSw); go_simp; (try with_reducible rfl))
        simp only [Act.put, List.setIfInBounds_toArray, List.set_cons_zero, List.set_cons_succ]
        refine take_l 7 (v := ?_) rfl (by kernel_rfl) (by kernel_rfl) (by kernel_rfl) (fun _ _ _ h => h) (Or.inl ⟨by rfl, ?_⟩) hHeld ?_
        rotate_left
        · (intro w hSw; (try dsimp only at hSw); go_simp; (try with_reducible rfl))
        simp only [Act.put, List.setIfInBounds_toArray, List.set_cons_zero, List.set_cons_succ]
        refine take_l 8 (v := ?_) rfl (by kernel_rfl) (by kernel_rfl) (by kernel_rfl) (fun _ _ _ h => h) (Or.inl ⟨by rfl, ?_⟩) hHeld ?_
        rotate_left
        · (intro w hSw; (try dsimp only at hSw); go_simp; (try with_reducible rfl))
        simp only [Act.put, List.setIfInBounds_toArray, List.set_cons_zero, List.set_cons_succ]
        refine take_l 9 (v := ?_) rfl (by kernel_rfl) (by kernel_rfl) (by kernel_rfl) (fun _ _ _ h => h) (Or.inl ⟨by rfl, ?_⟩) hHeld ?_
        rotate_left
        · (intro w hSw; (try dsimp only at hSw); go_simp; (try with_reducible rfl))
        simp only [Act.put, List.setIfInBounds_toArray, List.set_cons_zero, List.set_cons_succ]
        have HCV := hide ((by decide +kernel : ∀ t : Fin 12, IntKind.u8.wrap (IntKind.i64.wrap (97 + ((t.val : Nat) : Int))) = ((lch t.val).toNat : Int)) ⟨t, ht12⟩)
        have HLN := hide (show (D ++ [120, lch t, 10] ++ Z t ++ [10]).length = D.length + ((Z t).length + 1 + 1 + 1 + 1) by simp)
        refine wpAnyH_ready (rs := [4, 11]) (by kernel_rfl) (by simp) ?_
        refine AllReadyH.cons rfl (fun K hK => ?_) (AllReadyH.cons rfl (fun K hK => ?_) AllReadyH.nil)
        · go_simp
          obtain ⟨w10, hw10⟩ : ∃ w, w = (wr.alloc (.cells #[.int .u8 120, .int .u8 (IntKind.u8.wrap (IntKind.i64.wrap (97 + (t : Int)))), .int .u8 10] 5)).drew := ⟨_, rfl⟩
          rw [← hw10]
          have s10 : Still wr w10 := by rw [hw10]; exact ((Fr.refl _ wr).alloc _).drewN 1
          have b10 : Sl w10 (some ⟨wr.heap.size, 0, none⟩) 3 3 [120, lch t, 10] := by rw [hw10, unhide HCV]; exact (sl_built _ [120, lch t, 10] 3 rfl (0, 0)).drewN 1
          have x10 : wr.heap.size < w10.heap.size := by rw [hw10]; simp
          have g10 : Fr (fun k => b0 ≤ k) wr w10 := s10.mono (fun _ h => h.elim)
          have q10 := (unhide HROW).still s10 (fun _ _ h => h)
          clear hw10
          refine hK.out _ _ (unhide CEL _ g10) (fun _ => ?_)
          clear hK K
          refine wpAnyH_ready (rs := [5, 11]) (by kernel_rfl) (by simp) ?_
          refine AllReadyH.cons rfl (fun K hK => ?_) (AllReadyH.cons rfl (fun K hK => ?_) AllReadyH.nil)
          · refine step_cat rfl (.tmp 35) (.tmp 39) rfl rfl b0 (.slice pa pn pc) (D) rfl q10 _ 3 3 [120, lch t, 10] rfl b10 (by simp; omega) (by have := g10.size; omega) ?_
            intro v11 w11 o11 r11 e11
            have g11 : Fr (fun k => b0 ≤ k) wr w11 := g10.trans' r11 (fun k e => .inl (q10.lt k e).1)
            refine hK.out _ _ (unhide CEL _ g11) (fun _ => ?_)
            clear hK K
            refine wpAnyH_ready (rs := [10, 11]) (by kernel_rfl) (by simp) ?_
            refine AllReadyH.cons rfl (fun K hK => ?_) (AllReadyH.cons rfl (fun K hK => ?_) AllReadyH.nil)
            · refine step_cat rfl (.tmp 40) (.tmp 44) rfl rfl b0 (v11) (D ++ [120, lch t, 10]) rfl o11 (A t) lt (C t) (Z t) rfl (unhide SLW _ g11) (by simp; omega) (by have := g11.size; omega) ?_
              intro v12 w12 o12 r12 e12
              have g12 : Fr (fun k => b0 ≤ k) wr w12 := g11.trans' r12 (fun k e => .inl (o11.lt k e).1)
              refine hK.out _ _ (unhide CEL _ g12) (fun _ => ?_)
              clear hK K
              refine wpAnyH_ready (rs := [11]) (by kernel_rfl) (by simp) ?_
              refine AllReadyH.cons rfl (fun K hK => ?_) AllReadyH.nil
              go_simp
              obtain ⟨w13, hw13⟩ : ∃ w, w = w12.alloc (.cells #[.int .u8 10] 5) := ⟨_, rfl⟩
              rw [← hw13]
              have s13 : Still w12 w13 := by rw [hw13]; exact (Fr.refl _ _).alloc _
              have b13 : Sl w13 (some ⟨w12.heap.size, 0, none⟩) 1 1 [10] := by rw [hw13]; exact (sl_built _ [10] 1 rfl (0, 0))
              have x13 : w12.heap.size < w13.heap.size := by rw [hw13]; simp
              have g13 : Fr (fun k => b0 ≤ k) wr w13 := g12.trans' s13 (fun _ h => h.elim)
              have q13 := o12.still s13 (fun _ _ h => h)
              have n13 : ∀ k, Value.ownBlock (v12) = some k → k ≠ w12.heap.size := fun k e => by have := (o12.lt k e).2; omega
              clear hw13
              refine hK.out _ _ (unhide CEL _ g13) (fun _ => ?_)
              clear hK K
              refine wpAnyH_ready (rs := [12]) (by kernel_rfl) (by simp) ?_
              refine AllReadyH.cons rfl (fun K hK => ?_) AllReadyH.nil
              refine step_cat rfl (.tmp 45) (.tmp 46) rfl rfl b0 (v12) ((D ++ [120, lch t, 10]) ++ Z t) rfl q13 _ 1 1 [10] rfl b13 (by simp; omega) (by have := g13.size; omega) ?_
              intro v14 w14 o14 r14 e14
              have g14 : Fr (fun k => b0 ≤ k) wr w14 := g13.trans' r14 (fun k e => .inl (q13.lt k e).1)
              obtain ⟨qa, qc, hv9⟩ := rows_form o14
              subst hv9
              refine hK.out _ _ (unhide CEL _ g14) (fun _ => ?_)
              clear hK K
              refine wpAnyH_ready (rs := [13]) (by kernel_rfl) (by simp) ?_
              refine AllReadyH.cons rfl (fun K hK => ?_) AllReadyH.nil
              go_simp
              refine hK.out _ _ (unhide CEL _ g14) (fun _ => ?_)
              clear hK K
              have HFIN := hide (And.intro o14 g14)
              refine wpAnyH_done (by kernel_rfl) ?_ _
              go_wp2_with fail
              refine ⟨⟨t + 1, qa, _, qc, rfl, by go_num, hide ⟨by omega, fun j hj => ?_, ?_, (unhide HI2).2.trans (unhide HFIN).2⟩⟩, by simp [RowKit.intOf]; omega⟩
              · by_cases hjt : j = t
                · subst hjt; exact hZl
                · exact (unhide HI2).1 j (by omega)
              · have h8 := (unhide HFIN).1
                rw [show allL Z (t + 1) = (((D ++ [120, lch t, 10]) ++ Z t) ++ [10]) by show allL Z t ++ recL Z t = _; rw [unhide HD]; simp [recL]]
                rw [unhide HLN] at h8
                exact h8
            · go_simp
              obtain ⟨w15, hw15⟩ : ∃ w, w = w11.alloc (.cells #[.int .u8 10] 5) := ⟨_, rfl⟩
              rw [← hw15]
              have s15 : Still w11 w15 := by rw [hw15]; exact (Fr.refl _ _).alloc _
              have b15 : Sl w15 (some ⟨w11.heap.size, 0, none⟩) 1 1 [10] := by rw [hw15]; exact (sl_built _ [10] 1 rfl (0, 0))
              have x15 : w11.heap.size < w15.heap.size := by rw [hw15]; simp
              have g15 : Fr (fun k => b0 ≤ k) wr w15 := g11.trans' s15 (fun _ h => h.elim)
              have q15 := o11.still s15 (fun _ _ h => h)
              have n15 : ∀ k, Value.ownBlock (v11) = some k → k ≠ w11.heap.size := fun k e => by have := (o11.lt k e).2; omega
              clear hw15
              refine hK.out _ _ (unhide CEL _ g15) (fun _ => ?_)
              clear hK K
              refine wpAnyH_ready (rs := [10]) (by kernel_rfl) (by simp) ?_
              refine AllReadyH.cons rfl (fun K hK => ?_) AllReadyH.nil
              refine step_cat rfl (.tmp 40) (.tmp 44) rfl rfl b0 (v11) (D ++ [120, lch t, 10]) rfl q15 (A t) lt (C t) (Z t) rfl (unhide SLW _ g15) (by simp; omega) (by have := g15.size; omega) ?_
              intro v16 w16 o16 r16 e16
              have g16 : Fr (fun k => b0 ≤ k) wr w16 := g15.trans' r16 (fun k e => .inl (q15.lt k e).1)
              have p16 := b15.on r16 (fun b9 o9 e9 _ h9 => by cases e9; exact n15 _ h9 rfl)
              have xx16 : w11.heap.size < w16.heap.size := by have := r16.size; omega
              have n16 : ∀ k, Value.ownBlock v16 = some k → k ≠ w11.heap.size := fun k e => by
                rcases e16 with e9 | e9
                · exact n15 k (by rw [← e9]; exact e)
                · rw [e9] at e; cases e; omega
              refine hK.out _ _ (unhide CEL _ g16) (fun _ => ?_)
              clear hK K
              refine wpAnyH_ready (rs := [12]) (by kernel_rfl) (by simp) ?_
              refine AllReadyH.cons rfl (fun K hK => ?_) AllReadyH.nil
              refine step_cat rfl (.tmp 45) (.tmp 46) rfl rfl b0 (v16) ((D ++ [120, lch t, 10]) ++ Z t) rfl o16 _ 1 1 [10] rfl p16 (by simp; omega) (by have := g16.size; omega) ?_
              intro v17 w17 o17 r17 e17
              have g17 : Fr (fun k => b0 ≤ k) wr w17 := g16.trans' r17 (fun k e => .inl (o16.lt k e).1)
              obtain ⟨qa, qc, hv9⟩ := rows_form o17
              subst hv9
              refine hK.out _ _ (unhide CEL _ g17) (fun _ => ?_)
              clear hK K
              refine wpAnyH_ready (rs := [13]) (by kernel_rfl) (by simp) ?_
              refine AllReadyH.cons rfl (fun K hK => ?_) AllReadyH.nil
              go_simp
              refine hK.out _ _ (unhide CEL _ g17) (fun _ => ?_)
              clear hK K
              have HFIN := hide (And.intro o17 g17)
              refine wpAnyH_done (by kernel_rfl) ?_ _
              go_wp2_with fail
              refine ⟨⟨t + 1, qa, _, qc, rfl, by go_num, hide ⟨by omega, fun j hj => ?_, ?_, (unhide HI2).2.trans (unhide HFIN).2⟩⟩, by simp [RowKit.intOf]; omega⟩
              · by_cases hjt : j = t
                · subst hjt; exact hZl
                · exact (unhide HI2).1 j (by omega)
              · have h8 := (unhide HFIN).1
                rw [show allL Z (t + 1) = (((D ++ [120, lch t, 10]) ++ Z t) ++ [10]) by show allL Z t ++ recL Z t = _; rw [unhide HD]; simp [recL]]
                rw [unhide HLN] at h8
                exact h8
          · go_simp
            obtain ⟨w18, hw18⟩ : ∃ w, w = w10.alloc (.cells #[.int .u8 10] 5) := ⟨_, rfl⟩
            rw [← hw18]
            have s18 : Still w10 w18 := by rw [hw18]; exact (Fr.refl _ _).alloc _
            have b18 : Sl w18 (some ⟨w10.heap.size, 0, none⟩) 1 1 [10] := by rw [hw18]; exact (sl_built _ [10] 1 rfl (0, 0))
            have x18 : w10.heap.size < w18.heap.size := by rw [hw18]; simp
            have g18 : Fr (fun k => b0 ≤ k) wr w18 := g10.trans' s18 (fun _ h => h.elim)
            have q18 := q10.still s18 (fun _ _ h => h)
            have n18 : ∀ k, Value.ownBlock (.slice pa pn pc) = some k → k ≠ w10.heap.size := fun k e => by have := (q10.lt k e).2; omega
            have p18 := b10.still s18
            clear hw18
            refine hK.out _ _ (unhide CEL _ g18) (fun _ => ?_)
            clear hK K
            refine wpAnyH_ready (rs := [5]) (by kernel_rfl) (by simp) ?_
            refine AllReadyH.cons rfl (fun K hK => ?_) AllReadyH.nil
            refine step_cat rfl (.tmp 35) (.tmp 39) rfl rfl b0 (.slice pa pn pc) (D) rfl q18 _ 3 3 [120, lch t, 10] rfl p18 (by simp; omega) (by have := g18.size; omega) ?_
            intro v19 w19 o19 r19 e19
            have g19 : Fr (fun k => b0 ≤ k) wr w19 := g18.trans' r19 (fun k e => .inl (q18.lt k e).1)
            have p19 := b18.on r19 (fun b9 o9 e9 _ h9 => by cases e9; exact n18 _ h9 rfl)
            have xx19 : w10.heap.size < w19.heap.size := by have := r19.size; omega
            have n19 : ∀ k, Value.ownBlock v19 = some k → k ≠ w10.heap.size := fun k e => by
              rcases e19 with e9 | e9
              · exact n18 k (by rw [← e9]; exact e)
              · rw [e9] at e; cases e; omega
            refine hK.out _ _ (unhide CEL _ g19) (fun _ => ?_)
            clear hK K
            refine wpAnyH_ready (rs := [10]) (by kernel_rfl) (by simp) ?_
            refine AllReadyH.cons rfl (fun K hK => ?_) AllReadyH.nil
            refine step_cat rfl (.tmp 40) (.tmp 44) rfl rfl b0 (v19) (D ++ [120, lch t, 10]) rfl o19 (A t) lt (C t) (Z t) rfl (unhide SLW _ g19) (by simp; omega) (by have := g19.size; omega) ?_
            intro v20 w20 o20 r20 e20
            have g20 : Fr (fun k => b0 ≤ k) wr w20 := g19.trans' r20 (fun k e => .inl (o19.lt k e).1)
            have p20 := p19.on r20 (fun b9 o9 e9 _ h9 => by cases e9; exact n19 _ h9 rfl)
            have xx20 : w10.heap.size < w20.heap.size := by have := r20.size; omega
            have n20 : ∀ k, Value.ownBlock v20 = some k → k ≠ w10.heap.size := fun k e => by
              rcases e20 with e9 | e9
              · exact n19 k (by rw [← e9]; exact e)
              · rw [e9] at e; cases e; omega
            refine hK.out _ _ (unhide CEL _ g20) (fun _ => ?_)
            clear hK K
            refine wpAnyH_ready (rs := [12]) (by kernel_rfl) (by simp) ?_
            refine AllReadyH.cons rfl (fun K hK => ?_) AllReadyH.nil
            refine step_cat rfl (.tmp 45) (.tmp 46) rfl rfl b0 (v20) ((D ++ [120, lch t, 10]) ++ Z t) rfl o20 _ 1 1 [10] rfl p20 (by simp; omega) (by have := g20.size; omega) ?_
            intro v21 w21 o21 r21 e21
            have g21 : Fr (fun k => b0 ≤ k) wr w21 := g20.trans' r21 (fun k e => .inl (o20.lt k e).1)
            obtain ⟨qa, qc, hv9⟩ := rows_form o21
            subst hv9
            refine hK.out _ _ (unhide CEL _ g21) (fun _ => ?_)
            clear hK K
            refine wpAnyH_ready (rs := [13]) (by kernel_rfl) (by simp) ?_
            refine AllReadyH.cons rfl (fun K hK => ?_) AllReadyH.nil
            go_simp
            refine hK.out _ _ (unhide CEL _ g21) (fun _ => ?_)
            clear hK K
            have HFIN := hide (And.intro o21 g21)
            refine wpAnyH_done (by kernel_rfl) ?_ _
            go_wp2_with fail
            refine ⟨⟨t + 1, qa, _, qc, rfl, by go_num, hide ⟨by omega, fun j hj => ?_, ?_, (unhide HI2).2.trans (unhide HFIN).2⟩⟩, by simp [RowKit.intOf]; omega⟩
            · by_cases hjt : j = t
              · subst hjt; exact hZl
              · exact (unhide HI2).1 j (by omega)
            · have h8 := (unhide HFIN).1
              rw [show allL Z (t + 1) = (((D ++ [120, lch t, 10]) ++ Z t) ++ [10]) by show allL Z t ++ recL Z t = _; rw [unhide HD]; simp [recL]]
              rw [unhide HLN] at h8
              exact h8
        · go_simp
          obtain ⟨w22, hw22⟩ : ∃ w, w = (wr.alloc (.cells #[.int .u8 10] 5)).drew := ⟨_, rfl⟩
          rw [← hw22]
          have s22 : Still wr w22 := by rw [hw22]; exact ((Fr.refl _ wr).alloc _).drewN 1
          have b22 : Sl w22 (some ⟨wr.heap.size, 0, none⟩) 1 1 [10] := by rw [hw22]; exact (sl_built _ [10] 1 rfl (0, 0)).drewN 1
          have x22 : wr.heap.size < w22.heap.size := by rw [hw22]; simp
          have g22 : Fr (fun k => b0 ≤ k) wr w22 := s22.mono (fun _ h => h.elim)
          have q22 := (unhide HROW).still s22 (fun _ _ h => h)
          have n22 : ∀ k, Value.ownBlock (.slice pa pn pc) = some k → k ≠ wr.heap.size := fun k e => by have := ((unhide HROW).lt k e).2; omega
          clear hw22
          refine hK.out _ _ (unhide CEL _ g22) (fun _ => ?_)
          clear hK K
          refine wpAnyH_ready (rs := [4]) (by kernel_rfl) (by simp) ?_
          refine AllReadyH.cons rfl (fun K hK => ?_) AllReadyH.nil
          go_simp
          obtain ⟨w23, hw23⟩ : ∃ w, w = w22.alloc (.cells #[.int .u8 120, .int .u8 (IntKind.u8.wrap (IntKind.i64.wrap (97 + (t : Int)))), .int .u8 10] 5) := ⟨_, rfl⟩
          rw [← hw23]
          have s23 : Still w22 w23 := by rw [hw23]; exact (Fr.refl _ _).alloc _
          have b23 : Sl w23 (some ⟨w22.heap.size, 0, none⟩) 3 3 [120, lch t, 10] := by rw [hw23, unhide HCV]; exact (sl_built _ [120, lch t, 10] 3 rfl (0, 0))
          have x23 : w22.heap.size < w23.heap.size := by rw [hw23]; simp
          have g23 : Fr (fun k => b0 ≤ k) wr w23 := g22.trans' s23 (fun _ h => h.elim)
          have q23 := q22.still s23 (fun _ _ h => h)
          have p23 := b22.still s23
          have xx23 : wr.heap.size < w23.heap.size := by have := s23.size; omega
          clear hw23
          refine hK.out _ _ (unhide CEL _ g23) (fun _ => ?_)
          clear hK K
          refine wpAnyH_ready (rs := [5]) (by kernel_rfl) (by simp) ?_
          refine AllReadyH.cons rfl (fun K hK => ?_) AllReadyH.nil
          refine step_cat rfl (.tmp 35) (.tmp 39) rfl rfl b0 (.slice pa pn pc) (D) rfl q23 _ 3 3 [120, lch t, 10] rfl b23 (by simp; omega) (by have := g23.size; omega) ?_
          intro v24 w24 o24 r24 e24
          have g24 : Fr (fun k => b0 ≤ k) wr w24 := g23.trans' r24 (fun k e => .inl (q23.lt k e).1)
          have p24 := p23.on r24 (fun b9 o9 e9 _ h9 => by cases e9; exact n22 _ h9 rfl)
          have xx24 : wr.heap.size < w24.heap.size := by have := r24.size; omega
          have n24 : ∀ k, Value.ownBlock v24 = some k → k ≠ wr.heap.size := fun k e => by
            rcases e24 with e9 | e9
            · exact n22 k (by rw [← e9]; exact e)
            · rw [e9] at e; cases e; omega
          refine hK.out _ _ (unhide CEL _ g24) (fun _ => ?_)
          clear hK K
          refine wpAnyH_ready (rs := [10]) (by kernel_rfl) (by simp) ?_
          refine AllReadyH.cons rfl (fun K hK => ?_) AllReadyH.nil
          refine step_cat rfl (.tmp 40) (.tmp 44) rfl rfl b0 (v24) (D ++ [120, lch t, 10]) rfl o24 (A t) lt (C t) (Z t) rfl (unhide SLW _ g24) (by simp; omega) (by have := g24.size; omega) ?_
          intro v25 w25 o25 r25 e25
          have g25 : Fr (fun k => b0 ≤ k) wr w25 := g24.trans' r25 (fun k e => .inl (o24.lt k e).1)
          have p25 := p24.on r25 (fun b9 o9 e9 _ h9 => by cases e9; exact n24 _ h9 rfl)
          have xx25 : wr.heap.size < w25.heap.size := by have := r25.size; omega
          have n25 : ∀ k, Value.ownBlock v25 = some k → k ≠ wr.heap.size := fun k e => by
            rcases e25 with e9 | e9
            · exact n24 k (by rw [← e9]; exact e)
            · rw [e9] at e; cases e; omega
          refine hK.out _ _ (unhide CEL _ g25) (fun _ => ?_)
          clear hK K
          refine wpAnyH_ready (rs := [12]) (by kernel_rfl) (by simp) ?_
          refine AllReadyH.cons rfl (fun K hK => ?_) AllReadyH.nil
          refine step_cat rfl (.tmp 45) (.tmp 46) rfl rfl b0 (v25) ((D ++ [120, lch t, 10]) ++ Z t) rfl o25 _ 1 1 [10] rfl p25 (by simp; omega) (by have := g25.size; omega) ?_
          intro v26 w26 o26 r26 e26
          have g26 : Fr (fun k => b0 ≤ k) wr w26 := g25.trans' r26 (fun k e => .inl (o25.lt k e).1)
          obtain ⟨qa, qc, hv9⟩ := rows_form o26
          subst hv9
          refine hK.out _ _ (unhide CEL _ g26) (fun _ => ?_)
          clear hK K
          refine wpAnyH_ready (rs := [13]) (by kernel_rfl) (by simp) ?_
          refine AllReadyH.cons rfl (fun K hK => ?_) AllReadyH.nil
          go_simp
          refine hK.out _ _ (unhide CEL _ g26) (fun _ => ?_)
          clear hK K
          have HFIN := hide (And.intro o26 g26)
          refine wpAnyH_done (by kernel_rfl) ?_ _
          go_wp2_with fail
          refine ⟨⟨t + 1, qa, _, qc, rfl, by go_num, hide ⟨by omega, fun j hj => ?_, ?_, (unhide HI2).2.trans (unhide HFIN).2⟩⟩, by simp [RowKit.intOf]; omega⟩
          · by_cases hjt : j = t
            · subst hjt; exact hZl
            · exact (unhide HI2).1 j (by omega)
          · have h8 := (unhide HFIN).1
            rw [show allL Z (t + 1) = (((D ++ [120, lch t, 10]) ++ Z t) ++ [10]) by show allL Z t ++ recL Z t = _; rw [unhide HD]; simp [recL]]
            rw [unhide HLN] at h8
            exact h8
    · have htm' : m = t := by omega
      subst htm'
      have htm2 : ¬ (m : Int) < m := by omega
      have HZ3 := hide i2
      have hoff := offL_le Z m i2
      obtain ⟨D, hD⟩ : ∃ D, allL Z m = D := ⟨_, rfl⟩
      rw [hD] at i4
      obtain ⟨oa, oc, hv, sl9, bl9, fo9⟩ := i4.sl2
      injection hv with e1 e2 e3
      subst e1 e3
      have hDl : D.length = pn := e2.symm
      have hNL : offL Z m = pn := by rw [← hDl, ← hD]; rfl
      rw [hDl] at sl9
      have hNL9 : pn ≤ 3648 := by omega
      have hLd : Ld W wr f none [] 0 (.slice pa pn pc) D := ⟨⟨(unhide HL0).1.fm.on i5 (by omega) (fun k e => by cases e), i3, (unhide HL0).1.fge, fun k e => by cases e⟩, i4.from (by omega), fun k e => ⟨by have := (i4.lt k e).1; omega, fun e => by cases e⟩⟩
      have HLd := hide hLd
      have HD := hide hD; have HNL := hide hNL; have HDL := hide hDl
      have hoc := sl9.le
      have HBL := hide (And.intro bl9 fo9)
      clear HI i2 i3 i4 i5 sl9 bl9 fo9 hLd hD hNL hDl hoff e2
      go_wp2_with fail
      go_loopw [9, 10, 11] (fun va vl vi wq => ∃ (t : Nat) (ln : Bool) (i : Nat) (g : Option Nat), va = iv t ∧ vl = .bool ln ∧ vi = iv i ∧ Hid (t ≤ m ∧ i ≤ pn + 1 ∧ (t < m → i = 0 ∨ fedN slow pn i < pn) ∧ posL Z t ln ≤ fedN slow pn i ∧ (t = m → ln = true) ∧ Ld W wq f g (winL D (posL Z t ln) (fedN slow pn i)) (fedN slow pn i) (.slice pa pn pc) D)) (fun va vl vi wq => pn + 1 - (RowKit.intOf vi).toNat)
      case atStart =>
        have e0 : fedN slow pn 0 = 0 := by unfold fedN; cases slow <;> simp
        refine ⟨0, true, 0, none, rfl, rfl, rfl, hide ⟨by omega, by omega, fun _ => .inl rfl, by rw [e0]; simp [posL, offL, allL], fun _ => rfl, ?_⟩⟩
        rw [e0]
        have e1 : winL D (posL Z 0 true) 0 = [] := by simp [winL]
        rw [e1]
        exact unhide HLd
      case round =>
        obtain ⟨t, ln, i, g, rfl, rfl, rfl, HI⟩ := hrel
        obtain ⟨i1, i2, i3, i4, i5, i6⟩ := unhide HI
        by_cases hin : i ≤ pn ∧ t < m
        · obtain ⟨hiN, htm0⟩ := hin
          have hiN' : (i : Int) ≤ pn := by omega
          have htm0' : (t : Int) < m := by omega
          obtain ⟨q, hq⟩ : ∃ q, fedN slow pn (i + 1) = q := ⟨_, rfl⟩
          have hqN : q ≤ pn := by rw [← hq]; exact fedN_le _ _ _
          have HFED := hide hq
          have HI6 := hide (And.intro i4 (And.intro i5 i6))
          clear i3 i4 i5 i6 HI hq
          go_upto_if 59 with fail
          go_cut [64] from 60 to 75 (fun _ wx => Hid (posL Z t ln ≤ q ∧ ∃ g', Ld W wx f g' (winL D (posL Z t ln) q) q (.slice pa pn pc) D))
          case first =>
            obtain ⟨i4, i5, i6⟩ := unhide HI6
            obtain ⟨sl6, bl6, fo6⟩ := i6.row.slV
            have hab : ∀ x, pa = some x → 0 < pn → x.block ≠ f := fun x e _ => (i6.ap _ (bl6 x e)).1
            cases slow with
            | true =>
              have ef : fedN true pn i = i := by unfold fedN; simp; omega
              by_cases hip : i < pn
              · have hip' : (i : Int) < pn := by omega
                have eq : q = i + 1 := by rw [← unhide HFED]; unfold fedN; simp; omega
                have hs : ∀ w, (Instr.slice 25 (.slice pa pn pc) (some (.int .i64 (i : Int))) (some (.int .i64 ((i : Int) + 1))) none).run Try.prog w = .ok (.slice (cutA pa pc i) 1 (pc - i)) w := fun w => by
                  have h9 := slice_mid pa pn pc i (i + 1) .i64 .i64 w (by omega) (by omega)
                  rw [show i + 1 - i = 1 by omega, show ((i + 1 : Nat) : Int) = (i : Int) + 1 by omega] at h9
                  exact h9
                have hsl2 : Sl wr (cutA pa pc i) 1 (pc - i) ((D.drop i).take 1) := (sl6.drop i).take 1 (by omega)
                rw [ef] at i4 i6
                have KF := hide (feed_ok i6.fs.fm _ 1 (pc - i) _ hsl2 (by omega) (by omega) (fun x e _ => by
                  obtain ⟨y, e1, e2, _⟩ := cutA_of.1 x e
                  rw [e2]; exact hab y e1 (by omega)) (fun e => by cases e))
                rw [feed_win D (posL Z t ln) i (i + 1) _ (by rw [List.drop_take]; congr 1; omega) i4 (by omega) (by rw [unhide HDL]; omega)] at KF
                have HI7 := hide i6
                have HI4 := hide i4
                have HEQ := hide eq
                clear i4 i5 i6 sl6 bl6 fo6 hab hsl2 ef eq
                go_wp2_with fail
                refine (unhide KF).mono ?_
                rintro e w6 ⟨rfl, g6, x6⟩
                have HX := hide x6
                clear KF x6
                go_wp2_with fail
                go_meet
                rw [unhide HEQ]
                exact hide ⟨by have := unhide HI4; omega, g6, (unhide HI7).step (unhide HX)⟩
              · have hip' : ¬ (i : Int) < pn := by omega
                have eq : q = fedN true pn i := by rw [← unhide HFED]; unfold fedN; simp; omega
                have HH := hide (show posL Z t ln ≤ q ∧ ∃ g', Ld W wr f g' (winL D (posL Z t ln) q) q (.slice pa pn pc) D by rw [eq]; exact ⟨i4, g, i6⟩)
                clear i4 i5 i6 sl6 bl6 fo6 hab ef eq
                go_wp2_with fail
                go_meet
                exact HH
            | false =>
              by_cases hi0 : i = 0
              · have hi0' : ((i : Int) == 0) = true := by simp [hi0]
                have ef : fedN false pn i = 0 := by unfold fedN; simp [hi0]
                have eq : q = pn := by rw [← unhide HFED]; unfold fedN; simp
                rw [ef] at i4 i6
                have KF := hide (feed_ok i6.fs.fm _ pn pc _ sl6 (by omega) (by omega) hab (fun e => by cases e))
                rw [feed_win D (posL Z t ln) 0 pn _ (by rw [List.take_of_length_le (by rw [unhide HDL]; omega)]; rfl) i4 (by omega) (by rw [unhide HDL]; omega)] at KF
                have HI7 := hide i6
                have HI4 := hide i4
                have HEQ := hide eq
                clear i4 i5 i6 sl6 bl6 fo6 hab ef eq hi0
                go_wp2_with fail
                refine (unhide KF).mono ?_
                rintro e w6 ⟨rfl, g6, x6⟩
                have HX := hide x6
                clear KF x6
                go_wp2_with fail
                go_meet
                rw [unhide HEQ]
                refine hide ⟨by have := unhide HI4; omega, g6, ?_⟩
                have h9 := (unhide HI7).step (unhide HX)
                rw [Nat.zero_add] at h9
                exact h9
              · have hi0' : ((i : Int) == 0) = false := by simp [hi0]
                have eq : q = fedN false pn i := by rw [← unhide HFED]; unfold fedN; simp [hi0]
                have HH := hide (show posL Z t ln ≤ q ∧ ∃ g', Ld W wr f g' (winL D (posL Z t ln) q) q (.slice pa pn pc) D by rw [eq]; exact ⟨i4, g, i6⟩)
                clear i4 i5 i6 sl6 bl6 fo6 hab eq hi0
                go_wp2_with fail
                go_meet
                exact HH
          case rest =>
            obtain ⟨HC⟩ : Nonempty (Hid (posL Z t ln ≤ q ∧ ∃ g', Ld W wc f g' (winL D (posL Z t ln) q) q (.slice pa pn pc) D)) := ⟨hcut⟩
            have hc1 := (unhide HC).1
            have HT := hide (And.intro i1 (unhide HI6).2.1)
            have hqm : q ≤ offL Z m := by rw [unhide HNL]; exact hqN
            have hq9 : q ≤ 3648 := by omega
            have HQM := hide hqm
            have hi1 : (i : Int) + 1 ≤ 4000 := by omega
            clear HI6 hcut hqm i1
            go_wp2_with fail
            go_loopw [9, 10] (fun va vl wq => ∃ (t : Nat) (ln : Bool) (g : Option Nat), va = iv t ∧ vl = .bool ln ∧ Hid (t ≤ m ∧ posL Z t ln ≤ q ∧ (t = m → ln = true) ∧ Ld W wq f g (winL D (posL Z t ln) q) q (.slice pa pn pc) D)) (fun va vl wq => m - (RowKit.intOf va).toNat)
            case atStart =>
              obtain ⟨_, gc, hc2⟩ := unhide HC
              exact ⟨t, ln, gc, rfl, rfl, hide ⟨(unhide HT).1, hc1, (unhide HT).2, hc2⟩⟩
            case round =>
              obtain ⟨t, ln, g, rfl, rfl, HI⟩ := hrel
              obtain ⟨i1, i4, i5, i6⟩ := unhide HI
              by_cases htm : t < m
              · have htm' : (t : Int) < m := by omega
                obtain ⟨⟨xb, xo, e, c0⟩, hsl, hLm⟩ := unhide HP t (by omega)
                subst e
                have HC0 := hide c0
                have HSL := hide hsl
                have HLZ := hide hsl.len
                have hmono := offL_mono Z t m htm
                rw [unhide HNL] at hmono
                have ht12 : t < 12 := by omega
                have htl : t < len := by omega
                have hLb : L t ≤ 300 := by rw [unhide HLZ]; exact unhide HZ3 t htm
                have cur : ∀ w, Still W w → w.cell? ⟨xb, xo + t, none⟩ = some (.slice (A t) (L t) (C t)) := fun w h => h.cell' c0 (fun x => x)
                have HCUR := hide cur
                have hqm := unhide HQM
                clear hsl hLm c0 cur HI i5
                cases ln with
                | true =>
                  have hpos : posL Z t true = offL Z t := by simp [posL]
                  rw [hpos] at i4 i6
                  have KL := hide (line_ok i6.fs.fm (by omega))
                  have HI6 := hide i6
                  clear hpos i6
                  rw [← unhide HD] at KL
                  rcases load_line Z t m q htm hqm i4 with ⟨hq3, hlr⟩ | ⟨hq3, hlr⟩
                  · rw [hlr, unhide HD] at KL
                    clear hlr
                    go_wp2_with fail
                    refine (unhide KL).mono ?_
                    rintro e w6 ⟨rfl, g6, x6⟩
                    have HL6 := hide ((unhide HI6).step x6)
                    clear KL x6 HI6
                    obtain ⟨w8, hw8⟩ : ∃ w8, w8 = w6.alloc (.cells #[.int .u8 (97 + (t : Int))] 5) := ⟨_, rfl⟩
                    have hsl8 : Sl w8 (some ⟨w6.heap.size, 0, none⟩) 1 1 [lch t] := by
                      rw [hw8, show (97 + (t : Int)) = ((lch t).toNat : Int) by rw [lch_nat]; omega]
                      exact sl_built w6 [lch t] 1 rfl (0, 0)
                    have hcv8 := conv_rd w8 (some ⟨w6.heap.size, 0, none⟩) 1 1 [lch t] rfl hsl8.rd
                    have hadd : ∀ w, (Op.stringOp .add ⟨#[120]⟩ (bs [lch t])).run Try.prog w = .ok (.string (bs [120, lch t])) w := fun w => bs_add [120] [lch t] (by simp) w
                    have hL8 : Ld W w8 f g6 (winL D (offL Z t + 3) q) q (.slice pa pn pc) D := by rw [hw8]; exact (unhide HL6).still ((Fr.refl _ w6).alloc _)
                    have HL8 := hide hL8
                    have hc8 := unhide HCUR w8 hL8.fs.st
                    rw [hw8] at hcv8
                    have HW8 := hide hw8
                    clear hsl8 hL8 hw8
                    go_upto_region 28 with fail
                    rw [← unhide HW8]
                    clear hcv8 hadd HW8 HL6
                    have KP := hide (payload_ok (unhide HL8).fs.fm (by omega) ((L t : Nat) : Int))
                    have hlp := load_pay Z t m q htm hqm (by omega)
                    rw [unhide HD] at hlp
                    rcases hlp with ⟨hq4, hp1, hp2, hp3⟩ | ⟨hq4, hp1⟩
                    · have HQ := hide (And.intro hp1 (And.intro hp2 hp3))
                      have hq5 : offL Z (t + 1) ≤ q := hq4
                      clear hp1 hp2 hp3 hq4
                      go_wp2_with fail
                      refine (unhide KP).mono ?_
                      rintro e w7 ⟨_, p1⟩
                      obtain ⟨a7, cap7, g7, rfl, rd7, x7, _⟩ := p1 (by rw [Int.toNat_natCast, unhide HLZ]; exact (unhide HQ).1)
                      rw [Int.toNat_natCast, unhide HLZ] at rd7 x7
                      rw [(unhide HQ).2.1] at rd7
                      rw [(unhide HQ).2.2] at x7
                      have L7 := (unhide HL8).step x7
                      have hcb : ∀ r, (convert 25 9 (.slice a7 (L t) cap7)).run Try.prog (w7.drewN r) = .ok (.string (bs (Z t))) (w7.drewN r) := fun r => conv_rd (w7.drewN r) a7 (L t) cap7 (Z t) (unhide HLZ) rd7
                      have hst7 : Still W w7 := L7.fs.st
                      have hcz : ∀ r, (convert 25 9 (.slice (A t) (L t) (C t))).run Try.prog (w7.drewN r) = .ok (.string (bs (Z t))) (w7.drewN r) := fun r => conv_rd (w7.drewN r) (A t) (L t) (C t) (Z t) (unhide HLZ) ((unhide HSL).still hst7).rd
                      have c7 : ∀ r, (w7.drewN r).cell? ⟨xb, xo + t, none⟩ = some (.slice (A t) (L t) (C t)) := fun _ => hst7.cell' (unhide HC0) (fun x => x)
                      have HL7 := hide L7
                      rw [Int.toNat_natCast]
                      clear KP p1 rd7 x7 L7 hst7
                      go_wp2_with fail
                      go_quiet (fail)
                      go_wp2_with fail
                      have hpos : posL Z (t + 1) true = offL Z (t + 1) := by simp [posL]
                      exact ⟨⟨t + 1, true, g7, by go_num, rfl, hide ⟨by omega, by rw [hpos]; exact hq5, fun _ => rfl, by rw [hpos]; exact (unhide HL7).still ((Fr.refl _ w7).drewN _)⟩⟩, by simp [RowKit.intOf]; omega⟩
                    · have HQ := hide hp1
                      have hq5 : q < pn := by omega
                      clear hp1 hq4
                      go_wp2_with fail
                      refine (unhide KP).mono ?_
                      rintro e w7 ⟨p1, _⟩
                      obtain ⟨rfl, x7⟩ := p1 (by rw [Int.toNat_natCast, unhide HLZ]; exact unhide HQ)
                      have HL7 := hide ((unhide HL8).step x7)
                      clear KP p1 x7
                      go_wp2_with fail
                      have hpos : posL Z t false = offL Z t + 3 := by simp [posL]
                      exact ⟨⟨t, false, i + 1, g6, rfl, rfl, by go_num, hide ⟨by omega, by omega, fun _ => .inr (by rw [unhide HFED]; exact hq5), by rw [hpos, unhide HFED]; omega, fun e => absurd e (by omega), by rw [hpos, unhide HFED]; exact unhide HL7⟩⟩, by simp [RowKit.intOf]; omega⟩
                  · rw [hlr, unhide HD] at KL
                    clear hlr
                    go_wp2_with fail
                    refine (unhide KL).mono ?_
                    rintro e w6 ⟨rfl, g6, x6⟩
                    have HL6 := hide ((unhide HI6).step x6)
                    clear KL x6 HI6
                    have hq5 : q < pn := by have := offL_succ Z t; omega
                    go_wp2_with fail
                    have hpos : posL Z t true = offL Z t := by simp [posL]
                    exact ⟨⟨t, true, i + 1, g6, rfl, rfl, by go_num, hide ⟨by omega, by omega, fun _ => .inr (by rw [unhide HFED]; exact hq5), by rw [hpos, unhide HFED]; omega, fun _ => rfl, by rw [hpos, unhide HFED]; exact unhide HL6⟩⟩, by simp [RowKit.intOf]; omega⟩
                | false =>
                  have hpos : posL Z t false = offL Z t + 3 := by simp [posL]
                  rw [hpos] at i4 i6
                  have HL8 := hide i6
                  have hc8 := unhide HCUR wr i6.fs.st
                  have hq3 := i4
                  clear hpos i6
                  have KP := hide (payload_ok (unhide HL8).fs.fm (by omega) ((L t : Nat) : Int))
                  have hlp := load_pay Z t m q htm hqm (by omega)
                  rw [unhide HD] at hlp
                  rcases hlp with ⟨hq4, hp1, hp2, hp3⟩ | ⟨hq4, hp1⟩
                  · have HQ := hide (And.intro hp1 (And.intro hp2 hp3))
                    have hq5 : offL Z (t + 1) ≤ q := hq4
                    clear hp1 hp2 hp3 hq4
                    go_wp2_with fail
                    refine (unhide KP).mono ?_
                    rintro e w7 ⟨_, p1⟩
                    obtain ⟨a7, cap7, g7, rfl, rd7, x7, _⟩ := p1 (by rw [Int.toNat_natCast, unhide HLZ]; exact (unhide HQ).1)
                    rw [Int.toNat_natCast, unhide HLZ] at rd7 x7
                    rw [(unhide HQ).2.1] at rd7
                    rw [(unhide HQ).2.2] at x7
                    have L7 := (unhide HL8).step x7
                    have hcb : ∀ r, (convert 25 9 (.slice a7 (L t) cap7)).run Try.prog (w7.drewN r) = .ok (.string (bs (Z t))) (w7.drewN r) := fun r => conv_rd (w7.drewN r) a7 (L t) cap7 (Z t) (unhide HLZ) rd7
                    have hst7 : Still W w7 := L7.fs.st
                    have hcz : ∀ r, (convert 25 9 (.slice (A t) (L t) (C t))).run Try.prog (w7.drewN r) = .ok (.string (bs (Z t))) (w7.drewN r) := fun r => conv_rd (w7.drewN r) (A t) (L t) (C t) (Z t) (unhide HLZ) ((unhide HSL).still hst7).rd
                    have c7 : ∀ r, (w7.drewN r).cell? ⟨xb, xo + t, none⟩ = some (.slice (A t) (L t) (C t)) := fun _ => hst7.cell' (unhide HC0) (fun x => x)
                    have HL7 := hide L7
                    rw [Int.toNat_natCast]
                    clear KP p1 rd7 x7 L7 hst7
                    go_wp2_with fail
                    go_quiet (fail)
                    go_wp2_with fail
                    have hpos : posL Z (t + 1) true = offL Z (t + 1) := by simp [posL]
                    exact ⟨⟨t + 1, true, g7, by go_num, rfl, hide ⟨by omega, by rw [hpos]; exact hq5, fun _ => rfl, by rw [hpos]; exact (unhide HL7).still ((Fr.refl _ w7).drewN _)⟩⟩, by simp [RowKit.intOf]; omega⟩
                  · have HQ := hide hp1
                    have hq5 : q < pn := by omega
                    clear hp1 hq4
                    go_wp2_with fail
                    refine (unhide KP).mono ?_
                    rintro e w7 ⟨p1, _⟩
                    obtain ⟨rfl, x7⟩ := p1 (by rw [Int.toNat_natCast, unhide HLZ]; exact unhide HQ)
                    have HL7 := hide ((unhide HL8).step x7)
                    clear KP p1 x7
                    go_wp2_with fail
                    have hpos : posL Z t false = offL Z t + 3 := by simp [posL]
                    exact ⟨⟨t, false, i + 1, g, rfl, rfl, by go_num, hide ⟨by omega, by omega, fun _ => .inr (by rw [unhide HFED]; exact hq5), by rw [hpos, unhide HFED]; omega, fun e => absurd e (by omega), by rw [hpos, unhide HFED]; exact unhide HL7⟩⟩, by simp [RowKit.intOf]; omega⟩
              · have htm2 : t = m := by omega
                have htm' : ¬ (t : Int) < m := by omega
                have HE := hide (And.intro i4 (And.intro (i5 htm2) i6))
                have HTM := hide htm2
                clear HI i4 i5 i6 htm2
                go_wp2_with fail
                obtain ⟨e4, e5, e6⟩ := unhide HE
                exact ⟨⟨t, ln, i + 1, g, rfl, rfl, by go_num, hide ⟨by omega, by omega, fun h => absurd h htm, by rw [unhide HFED]; exact e4, fun _ => e5, by rw [unhide HFED]; exact e6⟩⟩, by simp [RowKit.intOf]; omega⟩
        · have htm2 : t = m := by
            rcases Nat.lt_or_ge t m with h | h
            · have h9 : ¬ i ≤ pn := fun h9 => hin ⟨h9, h⟩
              rcases i3 h with h8 | h8
              · omega
              · exfalso
                have : fedN slow pn i = pn := by
                  unfold fedN
                  split
                  · omega
                  · rw [if_neg (by omega)]
                omega
            · omega
          have hln := i5 htm2
          subst htm2 hln
          have hpos : posL Z t true = pn := by rw [← unhide HNL]; simp [posL]
          have hfd := fedN_le slow pn i
          rw [hpos] at i6
          have hwl : ((winL D pn (fedN slow pn i)).length : Int) = 0 := by
            rw [win_len D pn _ (by rw [unhide HDL]; exact hfd)]; omega
          have KW := hide (waiting_ok i6.fs.fm (by omega))
          rw [hwl] at KW
          have HI6 := hide i6
          have htt : ¬ (t : Int) < t := by omega
          clear HI i3 i4 i5 i6 hpos hwl hfd hin
          by_cases hip : i ≤ pn
          · have hip' : (i : Int) ≤ pn := by omega
            go_wp2_with fail
            refine (unhide KW).mono ?_
            rintro e w5 ⟨rfl, q5, rfl⟩
            go_wp2_with fail
            refine (awake_ok _).mono ?_
            rintro e w6 ⟨rfl, hs⟩
            have HS := hide ((unhide HI6).fs.st.trans' (((Fr.refl (fun _ => False) wr).drewN q5).trans hs) (fun k e => e.elim))
            clear hs
            go_wp2_with fail
            go_ret
            exact ⟨rfl, hf ▸ (unhide HS).below (by omega) (fun _ h => h.elim)⟩
          · have hip' : ¬ (i : Int) ≤ pn := by omega
            go_wp2_with fail
            refine (unhide KW).mono ?_
            rintro e w5 ⟨rfl, q5, rfl⟩
            go_wp2_with fail
            refine (awake_ok _).mono ?_
            rintro e w6 ⟨rfl, hs⟩
            have HS := hide ((unhide HI6).fs.st.trans' (((Fr.refl (fun _ => False) wr).drewN q5).trans hs) (fun k e => e.elim))
            clear hs
            go_wp2_with fail
            go_ret
            exact ⟨rfl, hf ▸ (unhide HS).below (by omega) (fun _ h => h.elim)⟩
end Go.Proofs.Ytpidfndcihljmab
