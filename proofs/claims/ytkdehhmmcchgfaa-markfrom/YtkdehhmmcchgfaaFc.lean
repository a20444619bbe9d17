/- The closures of MarkFrom. -/
import Derived.Test.YtkdehhmmcchgfaaCl
import Derived.Test.YtkdehhmmcchgfaaIn
import Derived.Deep.RegionHeld3
namespace Go.Proofs.Ytkdehhmmcchgfaa
open Go.RowKit

/-- An append, its run told, in a region that draws. -/
theorem step_append_run {P : Program} {ops : Array Oper} {o : Oper} {a : Act} {w : World} {K : Act → World → Prop} {Q : Exit → Act → World → Prop} {E : Prop} (hgd : o.guard = none) (s x : Operand) (t : TypeId)
    (ho : o.op = .call { callee := .builtin .append, args := #[s, x], argTypes := #[t, t] }) (vs vx : Value) (hs : a.eval s = vs) (hx : a.eval x = vx) (v' : Value) (w' : World) (hr : (Builtin.append_ #[t, t] o.type #[vs, vx]).run P w = .ok v' w')
    (h : K (a.put o.dst v') w') : if Region.wanted o (yielded ops a.tmps) = true then Oper.wp P o a w K Q else E := by
  rw [if_pos (by simp [Region.wanted, hgd])]
  unfold Oper.wp execOp
  simp only [ho, resolve, invoke, builtin, Sem.run_bind, Sem.run_pure, Result.andThen_ok, List.map_toArray, List.map_cons, List.map_nil, hs, hx, hr]
  exact h
/-- A number brought under 41. -/
def at41 (z : Int) : Nat := msk z 65535 % 41
theorem at41_lt (z : Int) : at41 z < 41 := Nat.mod_lt _ (by omega)
set_option maxRecDepth 100000 in
theorem at_ok (z : Int) (W : World) : Calls Try.prog 13 #[iv z] W fun e W' => e = .returned (iv (at41 z : Nat)) ∧ W' = W := by
  obtain ⟨m, hm⟩ : ∃ m, msk z 65535 = m := ⟨_, rfl⟩
  have m1 : bits .and .i64 z 65535 = (m : Int) := hm ▸ mask_i64 z 65535 (by omega)
  have h : at41 z = m % 41 := by unfold at41; rw [hm]
  have HH := hide h
  clear hm h
  go_enter Try.func13, Try.ntmps13
  go_wp2
  go_ret
  refine ⟨?_, rfl⟩
  rw [unhide HH, Int.natCast_emod]
  rfl

/-- A row's first t, each brought under 41. -/
def pre41 (l : List Int) (t : Nat) : List Int := (List.range t).map fun i => (at41 (l.getD i 0) : Int)
theorem pre41_len (l : List Int) (t : Nat) : (pre41 l t).length = t := by simp [pre41]
theorem pre41_succ (l : List Int) (t : Nat) : pre41 l (t + 1) = pre41 l t ++ [(at41 (l.getD t 0) : Int)] := by simp [pre41, List.range_succ]
theorem pre41_mem (l : List Int) (t : Nat) (x : Int) (h : x ∈ pre41 l t) : ∃ k : Nat, x = k ∧ k < 41 := by
  obtain ⟨i, _, rfl⟩ := List.mem_map.1 h
  exact ⟨_, rfl, at41_lt _⟩

/-- What hangs on a number of the web. -/
def webOf (len : Nat) (L : Nat → Nat) (Z : Nat → List Int) (x : Nat) : List Int := if x < len then pre41 (Z x) (min (L x) 10) else []

set_option maxRecDepth 100000 in
set_option maxHeartbeats 4000000 in
theorem of_ok (x : Nat) (hx : x < 41) (b1 b2 : Nat) (W : World) (a : Option Addr) (len cap : Nat) (A : Nat → Option Addr) (L C : Nat → Nat) (Z : Nat → List Int) (hR : Rows2 W a len A L C Z)
    (c1 : W.cell? ⟨b1, 0, none⟩ = some (.slice a len cap)) (c2 : W.cell? ⟨b2, 0, none⟩ = some (.func (.func 13) #[] #[])) :
    Calls Try.prog 14 #[iv x, ptr b1, ptr b2] W fun e W' => ∃ v, e = .returned v ∧ Own W' W.heap.size v (webOf len L Z x) ∧ Still W W' := by
  have hx0 : (0 : Int) ≤ x := by omega
  by_cases hlt : x < len
  · have hlt' : (x : Int) < len := by omega
    have hw : webOf len L Z x = pre41 (Z x) (min (L x) 10) := if_pos hlt
    rw [hw]
    obtain ⟨⟨xb, xo, rfl, cx⟩, hn, hm⟩ := hR x hlt
    clear hR hw
    obtain ⟨ax, hax⟩ : ∃ ax, A x = ax := ⟨_, rfl⟩
    obtain ⟨lx, hlx⟩ : ∃ lx, L x = lx := ⟨_, rfl⟩
    obtain ⟨cc, hcx⟩ : ∃ cc, C x = cc := ⟨_, rfl⟩
    obtain ⟨zx, hzx⟩ : ∃ zx, Z x = zx := ⟨_, rfl⟩
    rw [hax, hlx, hcx] at cx
    rw [hax, hlx, hzx] at hn
    rw [hlx] at hm ⊢
    rw [hzx]
    have HC := hide (And.intro c1 (And.intro c2 (And.intro cx hn)))
    clear hax hlx hcx hzx cx hn c2
    go_enter Try.func14, Try.ntmps14
    go_wp2_with fail
    go_loopw [5, 6] (fun v i wr => ∃ (t : Nat) (sa : Option Addr) (sn sc : Nat), i = iv (t : Nat) ∧ v = .slice sa sn sc ∧ Hid (t ≤ min lx 10 ∧ Own wr W.heap.size (.slice sa sn sc) (pre41 zx t) ∧ sn = (pre41 zx t).length ∧ Still W wr)) (fun v i wr => 10 - (RowKit.intOf i).toNat)
    case atStart => exact ⟨0, none, 0, 0, by simp, rfl, hide ⟨by omega, Own.nil _ _, rfl, Fr.refl _ _⟩⟩
    case round =>
      obtain ⟨t, sa, sn, sc, rfl, rfl, HI⟩ := hrel
      have ht := (unhide HI).1
      have c1' := (unhide HI).2.2.2.cell' (unhide HC).1 (fun x => x)
      have cx' := (unhide HI).2.2.2.cell' (unhide HC).2.2.1 (fun x => x)
      by_cases h1 : t < lx
      · have h1' : (t : Int) < lx := by omega
        by_cases h2 : t < 10
        · have h2' : (t : Int) < 10 := by omega
          obtain ⟨yb, yo, rfl, cy0⟩ := (unhide HC).2.2.2 t h1
          obtain ⟨z, hz⟩ : ∃ z, zx.getD t 0 = z := ⟨_, rfl⟩
          replace cy0 : W.cell? ⟨yb, yo + t, none⟩ = some (.int .i64 (zx.getD t 0)) := cy0
          rw [hz] at cy0
          have hps := pre41_succ zx t
          rw [hz] at hps
          obtain ⟨i1, i2, i3, i4⟩ := unhide HI
          have fd : Fr (fun _ => False) wr wr.drew := (Fr.refl _ wr).drewN 1
          have id := still_tr i4 fd
          obtain ⟨pa, pq, u2, hap, o2, f2, -, hnn⟩ := Own.more Try.underlying22 wr.drew W.heap.size _ _ sn (i2.still fd fun _ _ x => x) i3 (at41 z : Nat) (by rw [i3, pre41_len]; omega) id.size
          rw [← hps] at o2 hnn
          have iu : Still W u2 := id.trans' f2 (fun g hg => .inr (i2.lt g hg).1)
          have ia : Still W (wr.alloc (.cells #[iv (at41 z : Nat)] 3)).drew := (i4.alloc _).drewN 1
          have hap' : (Builtin.append_ #[22, 22] 22 #[.slice sa sn sc, .slice (some ⟨wr.heap.size, 0, none⟩) 1 1]).run Try.prog (wr.alloc (.cells #[iv (at41 z : Nat)] 3)).drew = .ok (.slice pa (sn + 1) pq) u2 := hap
          have KS : ∀ u, Still W u → u.cell? ⟨b2, 0, none⟩ = some (.func (.func 13) #[] #[]) ∧ u.cell? ⟨b1, 0, none⟩ = some (.slice (some ⟨xb, xo, none⟩) len cap) ∧ u.cell? ⟨xb, xo + x, none⟩ = some (.slice (some ⟨yb, yo, none⟩) lx cc) ∧ u.cell? ⟨yb, yo + t, none⟩ = some (.int .i64 z) := fun u hu =>
            ⟨hu.cell' (unhide HC).2.1 (fun x => x), hu.cell' (unhide HC).1 (fun x => x), hu.cell' (unhide HC).2.2.1 (fun x => x), hu.cell' cy0 (fun x => x)⟩
          obtain ⟨d1, d2, d3, d4⟩ := KS _ id
          have su := KS _ iu; have sl := KS _ ia
          have HE := hide (And.intro o2 (And.intro hnn iu)); have HAP := hide hap'
          have hwt : wrap64 ((t : Int) + 1) = t + 1 := by unfold wrap64; omega
          have HT := hide h1
          clear i1 i2 i3 i4 fd id hap hap' o2 f2 hnn iu ia KS hz hps cy0 ht h1 h2
          go_wp2_with fail
          go_region_held3 (fun w' => w'.cell? ⟨b2, 0, none⟩ = some (.func (.func 13) #[] #[]) ∧ w'.cell? ⟨b1, 0, none⟩ = some (.slice (some ⟨xb, xo, none⟩) len cap) ∧ w'.cell? ⟨xb, xo + x, none⟩ = some (.slice (some ⟨yb, yo, none⟩) lx cc) ∧ w'.cell? ⟨yb, yo + t, none⟩ = some (.int .i64 z)) (first | go_keep | (exact su) | (exact sl)) (first | (go_at_call 13; refine (at_ok _ _).mono ?_; rintro e w9 ⟨rfl, rfl⟩) | (refine step_append_run rfl (.tmp 28) (.tmp 38) 22 rfl _ _ rfl rfl _ u2 (unhide HAP) ?_))
          go_wp2_with fail
          obtain ⟨o2, hnn, f3⟩ := unhide HE
          have h1 := unhide HT
          exact ⟨⟨t + 1, _, _, _, rfl, rfl, hide ⟨by omega, o2, hnn, f3⟩⟩, by simp [RowKit.intOf]; omega⟩
        · have h2' : ¬ (t : Int) < 10 := by omega
          obtain ⟨i1, i2, i3, i4⟩ := unhide HI
          have ht10 : t = min lx 10 := by omega
          have HO := hide (And.intro i2 (And.intro i4 ht10))
          clear i1 i2 i3 i4 ht10 ht h1 h2
          go_wp2
          go_ret
          exact ⟨_, rfl, by rw [← (unhide HO).2.2]; exact (unhide HO).1, (unhide HO).2.1⟩
      · have h1' : ¬ (t : Int) < lx := by omega
        obtain ⟨i1, i2, i3, i4⟩ := unhide HI
        have ht10 : t = min lx 10 := by omega
        have HO := hide (And.intro i2 (And.intro i4 ht10))
        clear i1 i2 i3 i4 ht10 ht h1
        go_wp2
        go_ret
        exact ⟨_, rfl, by rw [← (unhide HO).2.2]; exact (unhide HO).1, (unhide HO).2.1⟩
  · have hlt' : ¬ (x : Int) < len := by omega
    have hw : webOf len L Z x = [] := if_neg hlt
    rw [hw]
    clear hR hw c2
    go_enter Try.func14, Try.ntmps14
    go_wp2
    go_ret
    exact ⟨_, rfl, Own.nil _ _, Fr.refl _ _⟩
end Go.Proofs.Ytkdehhmmcchgfaa
