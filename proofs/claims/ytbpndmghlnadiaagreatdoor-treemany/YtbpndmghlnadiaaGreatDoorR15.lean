/- Joined: GLh Rb Rc GHs Wc Ya. -/
import Derived.Maps.AppendAt
import Derived.Deep.RegionHeld
import Derived.Test.YtbpndmghlnadiaaGreatDoorR06
import Derived.Test.YtbpndmghlnadiaaGreatDoorR07
import Derived.Test.YtbpndmghlnadiaaGreatDoorR13
import Derived.Test.YtbpndmghlnadiaaGreatDoorR14
namespace Go.Proofs.YtbpndmghlnadiaaGreatDoor
open Go.RowKit
set_option maxHeartbeats 4000000

section
section
variable {nu sz : Nat} {w w' w0 : World} {X V : Nat -> Prop} {hb sb b : Nat} {T : Tay} {A : Ab} {N : Nat} {free : Prop} {s : Int} {base : Nat -> Int}
theorem HpC.still (h : HpC nu sz w0 X w hb sb b T A N free s base) (hf : St w w') : HpC nu sz w0 X w' hb sb b T A N free s base :=
 ⟨h.hd.still hf, h.cl, h.hp.kept hf id id, h.xh, h.l0⟩
theorem HpC.more (h : HpC nu sz w0 X w hb sb b T A N free s base) (o : Obj) : HpC nu sz w0 (fun k => X k \/ k = w.heap.size) (w.alloc o) hb sb b T A N free s base :=
 ⟨h.hd.more o, h.cl, h.hp.kept ((Fr.refl (fun _ => False) w).alloc o) id id, .inl h.xh, h.l0⟩
theorem HpC.var (h : HpC nu sz w0 X w hb sb b T A N free s base) {F : Nat -> Prop} (hf : Fr F w w') (hF : ∀ k, F k -> X k) (hn : ¬ F hb) : HpC nu sz w0 X w' hb sb b T A N free s base :=
 ⟨h.hd.var hf hF, h.cl, h.hp.kept hf hn (fun e => by have := (h.hd.xl 0 (hF 0 e)).1; have := h.l0; omega), h.xh, h.l0⟩
theorem HpC.sub {Y : Nat -> Prop} (h : HpC nu sz w0 X w hb sb b T A N free s base) (hX : ∀ k, Y k -> X k) (hy : Y hb) : HpC nu sz w0 Y w hb sb b T A N free s base := ⟨h.hd.sub hX, h.cl, h.hp, hy, h.l0⟩
def DidH (nu sz : Nat) (w0 : World) (X V : Nat -> Prop) (w : World) (hb sb b : Nat) (T : Tay) (A : Ab) (N : Nat) (s : Int) (base : Nat -> Int) (R : How -> List (Int × Int) -> World -> Prop) (e : Ending) (w' : World) : Prop :=
 Fr (fun k => tfoot sb b T k \/ V k) w w' /\ ((∃ P' T' A', R .well P' w' /\ e = .returned (.int .i64 0) /\ HpC nu sz w0 X w' hb sb b T' A' N True (s + 30729) (homed P' base)) \/
 (∃ i P' T', R (.errno i) P' w' /\ e = .returned (.int .i64 i) /\ HpC nu sz w0 X w' hb sb b T' A N True s base))
theorem HpC.do_ {g : Nat} {fi ca : Array Value} {R : How -> List (Int × Int) -> World -> Prop} (h : HpC nu sz w0 X w hb sb b T A N True s base) (hV : ∀ k, V k -> X k) (hn : ¬ V hb) (hR : Stays V R)
  (hf : ChangeX V w sb b T sz A (.func (.func g) fi ca) R) (hs : s + 30729 < 4294967296) :
  Calls Tryz.prog 6 #[ptr sb, .func (.func g) fi ca] w (DidH nu sz w0 X V w hb sb b T A N s base R) := by
 obtain ⟨f, c, k⟩ := h.cl
 refine (t_doX h.hd.st c k (fun k hk => ⟨(h.hd.xl k (hV k hk)).2, h.hd.ap k (hV k hk)⟩) hR hf hs).mono ?_
 have key : ∀ {w' : World} {T' : Tay} {A' : Ab}, OnxX V w sb b T w' T' sz A' [] false -> Hold w0 X w' sb b sz T' A' [] false /\ HpL nu sz w' hb sb := by
  intro w' T' A' o
  refine ⟨⟨o.st, h.hd.fr.trans' o.fr (fun k hk => .inr (hk.elim (h.hd.new k) (fun x => (h.hd.xl k (hV k x)).1))), fun k hk => (o.sub k hk).elim (h.hd.new k) (fun x => Nat.le_trans h.hd.fr.size x), fun k hk => o.other (h.hd.xl k hk).2 (h.hd.ap k hk), fun k hk => ⟨(h.hd.xl k hk).1, Nat.lt_of_lt_of_le (h.hd.xl k hk).2 o.fr.size⟩⟩, ?_⟩
  refine h.hp.kept o.fr (fun e => e.elim (h.hd.ap hb h.xh) hn) (fun e => ?_)
  have l0 := h.l0
  rcases e with e | e
  ·have := h.hd.new 0 e; omega
  ·have := (h.hd.xl 0 (hV 0 e)).1; omega
 rintro e w' (⟨P', r, rfl, T', A', o, f', c', k'⟩ | ⟨_, _, _, _, _, _, hg, _⟩ | ⟨i, P', r, rfl, T', o⟩)
 ·exact ⟨o.fr, .inl ⟨P', T', A', r, rfl, (key o).1, ⟨f', c', k'⟩, (key o).2, h.xh, h.l0⟩⟩
 ·exact absurd trivial hg
 ·exact ⟨o.fr, .inr ⟨i, P', T', r, rfl, (key o).1, ⟨f, c, k⟩, (key o).2, h.xh, h.l0⟩⟩
structure NewH (nu : Nat) (g : Nat -> Int) : Prop where
 st : HpS nu g
 ak : ask nu g = fun _ => 0
 root : ∀ i, 2 <= i -> i < 18 -> g i = 0
theorem eq_nil_heap (b : Nat) (w : World) : (binOp .eql 24 (ptr b) (.pointer none)).run Tryz.prog w = .ok (.bool false) w := by kernel_rfl
end
end

section
structure Prt where
 at_ : Int
 fr : Bool
 n : Nat
 nx : Int
section
variable {w w' : World} {lo : Nat} {v : Value} {l : List Prt}
end
theorem wpList_append_run {P : Program} {w : World} {ops : Array Oper} {rest : List Oper} {o : Oper} {a : Act} {Q : Exit -> Act -> World -> Prop} (hgd : o.guard = none) (s x : Operand) (t : TypeId)
  (ho : o.op = .call { callee := .builtin .append, args := #[s, x], argTypes := #[t, t] }) (vs vx : Value) (hs : a.eval s = vs) (hx : a.eval x = vx) (v' : Value) (w' : World) (hr : (Builtin.append_ #[t, t] o.type #[vs, vx]).run P w = .ok v' w')
  (h : wpList P ops Q rest (a.put o.dst v') w') : wpList P ops Q (o :: rest) a w := by
 refine wpList_plain hgd fun K hK => ?_
 unfold Oper.wp execOp
 simp only [ho, resolve, invoke, builtin, Sem.run_bind, Sem.run_pure, Result.andThen_ok, List.map_toArray, List.map_cons, List.map_nil, hs, hx, hr]
 exact hK _ _ h
end

section
theorem onlyE_raw {f : Value} {w : World} {R : How -> World -> Prop} (K : Calls Tryz.prog 64 #[f] w fun e w' => ∃ h, e = .returned (.tuple #[h.v, .bool h.is]) /\ R h w') (hk : ∀ h w', R h w' -> h = .well \/ ∃ i, h = .errno i) :
  Calls Tryz.prog 87 #[f] w fun e w' => (e = .returned (.tuple #[.int .i64 0, .bool false]) /\ R .well w') \/ ∃ i, e = .returned (.tuple #[.int .i64 i, .bool true]) /\ R (.errno i) w' := by
 have HK := Hd K; clear K
 have a3 := taE_errno
 go_enter Tryz.func87, Tryz.ntmps87
 go_wp2_with fail
 refine (uh HK).mono ?_
 rintro e w1 ⟨h, rfl, hR⟩
 have hK := hk _ _ hR
 have HR := Hd hR; clear hR HK hk
 rcases hK with rfl | ⟨i, rfl⟩
 ·simp only [How.v, How.is]
  go_wp2
  go_ret2
  exact .inl ⟨rfl, uh HR⟩
 ·simp only [How.v, How.is]
  go_wp2
  go_ret2
  exact .inr ⟨i, rfl, uh HR⟩
theorem g_errno {f : Value} {w : World} {R : How -> World -> Prop} (K : Calls Tryz.prog 64 #[f] w fun e w' => ∃ h, e = .returned (.tuple #[h.v, .bool h.is]) /\ R h w') (hk : ∀ h w', R h w' -> h = .well \/ ∃ i, h = .errno i) :
  Calls Tryz.prog 39 #[f] w fun e w' => (e = .returned (.int .i64 0) /\ R .well w') \/ ∃ i, e = .returned (.int .i64 i) /\ R (.errno i) w' := by
 have HK := Hd (onlyE_raw K hk); clear K hk
 go_enter Tryz.func39, Tryz.ntmps39
 go_wp2_with fail
 refine (uh HK).mono ?_
 clear HK
 rintro e w1 (⟨rfl, h⟩ | ⟨i, rfl, h⟩)
 ·have HR := Hd h
  clear h
  go_wp2
  go_ret
  exact .inl ⟨rfl, uh HR⟩
 ·have HR := Hd h
  clear h
  go_wp2
  go_ret
  exact .inr ⟨i, rfl, uh HR⟩
section
variable {nu sz : Nat} {w w' w0 : World} {hb sb b : Nat} {T : Tay} {A : Ab} {P : List (Int × Int)}
theorem well_errnoG {i : Int} (h : How.well = How.errno i) : False := by injection h with h; cases h
end
end

section
def plU (K : Nat -> Nat) : Nat -> List Nat
 | 0 => []
 | n + 1 => plU K n ++ (if K n = 0 then [] else [n])
def plP (nu : Nat) (K : Nat -> Nat) (n : Nat) : List Nat := (plU K n).map fun u => fi nu + u * 8
section
variable {nu sz : Nat} {K : Nat -> Nat}
theorem plU_zero {n : Nat} (h : K n = 0) : plU K (n + 1) = plU K n := by simp [plU, h]
theorem plU_one {n : Nat} (h : K n ≠ 0) : plU K (n + 1) = plU K n ++ [n] := by simp [plU, h]
theorem plU_past {nu : Nat} (h : ∀ u, K u ≠ 0 -> u < nu) {n : Nat} (hn : nu <= n) : plU K n = plU K nu := by
 obtain ⟨d, rfl⟩ : ∃ d, n = nu + d := ⟨n - nu, by omega⟩
 clear hn
 induction d with
 | zero => rfl
 | succ d ih => rw [<- Nat.add_assoc, plU_zero (Classical.byContradiction fun e => by have := h _ e; omega), ih]
theorem plU_len (n : Nat) : (plU K n).length = sumTo (fun u => if K u = 0 then 0 else 1) n := by
 induction n with
 | zero => rfl
 | succ n ih =>
  simp only [plU, sumTo, List.length_append, ih]
  split <;> simp
theorem plU_mem {n u : Nat} : u ∈ plU K n ↔ u < n /\ K u ≠ 0 := by
 induction n with
 | zero => simp [plU]
 | succ n ih =>
  simp only [plU, List.mem_append, ih]
  by_cases h : K n = 0
  ·simp only [h, if_true, List.not_mem_nil, or_false]
   constructor
   ·rintro ⟨h1, h2⟩; exact ⟨by omega, h2⟩
   ·rintro ⟨h1, h2⟩; exact ⟨Nat.lt_of_le_of_ne (by omega) (fun e => h2 (e ▸ h)), h2⟩
  ·simp only [h, if_false, List.mem_singleton]
   constructor
   ·rintro (⟨h1, h2⟩ | rfl)
    ·exact ⟨by omega, h2⟩
    ·exact ⟨by omega, h⟩
   ·rintro ⟨h1, h2⟩
    by_cases e : u = n
    ·exact .inr e
    ·exact .inl ⟨by omega, h2⟩
theorem plU_rise (n : Nat) : (plU K n).Pairwise (· < ·) := by
 induction n with
 | zero => simp [plU]
 | succ n ih =>
  simp only [plU]
  rw [List.pairwise_append]
  refine ⟨ih, by split <;> simp, fun a ha c hc => ?_⟩
  split at hc
  ·simp at hc
  ·simp at hc
   subst hc
   exact (plU_mem.1 ha).1
theorem plP_len (n : Nat) : (plP nu K n).length = sumTo (fun u => if K u = 0 then 0 else 1) n := by simp [plP, plU_len]
theorem plP_one {n : Nat} (h : K n ≠ 0) : plP nu K (n + 1) = plP nu K n ++ [fi nu + n * 8] := by simp [plP, plU_one h]
theorem plP_zero {n : Nat} (h : K n = 0) : plP nu K (n + 1) = plP nu K n := by simp [plP, plU_zero h]
theorem plP_le (n : Nat) : (plP nu K n).length <= n := by
 rw [plP_len]
 have : sumTo (fun u => if K u = 0 then 0 else 1) n <= sumTo (fun _ => 1) n := sumTo_le fun u _ => by split <;> omega
 rwa [sumTo_one] at this
end
theorem ask_word {nu : Nat} {f : Nat -> Int} {q j : Nat} (h : f (aw nu + q) = 0) (hj : j < 4) (hq : q < qa nu) : ask nu f (4 * q + j) = 0 := by
 rw [ask_of (by omega), show (4 * q + j) / 4 = q by omega, h]
 simp [dig]
section
variable {nu sz : Nat} {w w' : World} {hb sb b : Nat} {T : Tay} {A : Ab} {P : List (Int × Int)}
set_option maxRecDepth 20000 in
theorem h_pieces (h : Hp nu sz w hb sb b T A P) (s : HpS nu (says P A)) : Calls Tryz.prog 18 #[ptr hb] w fun e w' => ∃ v, e = .returned v /\ w'.ownsRow w.heap.size 3 1 v (cnt nu (ask nu (says P A))) (natVals (plP nu (ask nu (says P A)) nu)) /\ St w w' := by
 have hi := info3
 obtain ⟨i0, hi0⟩ : ∃ i, Tryz.prog.info? 3 = some i := by
  cases h : Tryz.prog.info? 3 with
  | none => rw [h] at hi; simp at hi
  | some i => exact ⟨i, rfl⟩
 rw [hi0] at hi
 simp only [Option.map_some, Option.some.injEq, Prod.mk.injEq] at hi
 have HI := Hd (ai hi0 hi)
 clear hi hi0
 obtain ⟨g1, g2, g3, g4, g5, g6⟩ := h.hp.geo.b
 have HH := Hd h; have HS := Hd s
 clear h s
 go_enter Tryz.func18, Tryz.ntmps18
 go_wp2_with fail
 go_loopw [3, 4] (fun v i wr => ∃ q : Nat, q <= qa nu /\ i = .int .i64 (4 * q) /\ wr.ownsRow w.heap.size 3 1 v (plP nu (ask nu (says P A)) (4 * q)).length (natVals (plP nu (ask nu (says P A)) (4 * q))) /\ St w wr) (fun v i wr => 5000 - (intOf i).toNat)
 case atStart => exact ⟨0, by omega, rfl, World.ownsRow_nil _ _ _ _, Fr.refl _ _⟩
 case round =>
  obtain ⟨q, hq, rfl, own, hf⟩ := hrel
  have hp := (uh HH).still hf
  have c1 := hp.hp.c1
  have s := uh HS
  by_cases hlt : q < qa nu
  ·obtain ⟨r0, r1⟩ := s.wd (aw nu + q) (by omega)
   have c0 := hp.hp.c0; have c9 := hp.hp.c9
   have LD := fun p => hp.reads p (aw nu + q) (by omega)
   have e4 : (4 * (q : Int)) / 4 = q := by omega
   have hc4 : (4 * (q : Int) < nu) = True := by simp; omega
   have e2 : ((aw nu + q : Nat) : Int) = (aw nu : Int) + (q : Int) := by omega
   obtain ⟨x, hx⟩ : ∃ x : Nat, says P A (aw nu + q) = x := ⟨(says P A (aw nu + q)).toNat, by omega⟩
   simp only [hx, e2] at LD
   have HLD := @Hd _ LD; have HX := Hd (ai own (ai hf hx))
   clear LD own hf hp s hx r0 r1
   by_cases hx0 : x = 0
   ·have hx0' : ((x : Int) == 0) = true := by simp; exact hx0
    go_wp2_with fail
    refine region_tailP 12 (by kernel_rfl) (by kernel_rfl) ?_
    simp only [List.take_succ_cons, List.take_zero, List.drop_succ_cons, List.drop_zero]
    repeat (go_big_quiet_step (first | (go_at_call 48; exact Calls.quiet_of_same (uh HLD _))))
    refine wpQuiet_nil ?_
    rintro _ ⟨nq, rfl⟩
    clear HLD
    go_wp2
    obtain ⟨own, hf, hx⟩ := uh HX
    have z : says P A (aw nu + q) = 0 := by rw [hx, hx0]; rfl
    have pz : plP nu (ask nu (says P A)) (4 * (q + 1)) = plP nu (ask nu (says P A)) (4 * q) := by
     rw [show 4 * (q + 1) = 4 * q + 3 + 1 by omega, plP_zero (ask_word z (by omega) hlt), plP_zero (n := 4 * q + 2) (ask_word z (by omega) hlt), plP_zero (n := 4 * q + 1) (ask_word z (by omega) hlt), plP_zero (n := 4 * q) (ask_word z (j := 0) (by omega) hlt)]
    refine ⟨⟨q + 1, by omega, by go_num, ?_, hf.drewN nq⟩, by simp [intOf]; omega⟩
    rw [pz]
    exact owns_same own (fun k hk => rfl)
   ·have hx0' : ((x : Int) == 0) = false := by simp; exact hx0
    go_wp2_with fail
    refine region_tailP 12 (by kernel_rfl) (by kernel_rfl) ?_
    simp only [List.take_succ_cons, List.take_zero, List.drop_succ_cons, List.drop_zero]
    repeat (go_big_quiet_step (first | (go_at_call 48; exact Calls.quiet_of_same (uh HLD _))))
    refine wpQuiet_nil ?_
    rintro _ ⟨nq, rfl⟩
    clear HLD c0 c9
    obtain ⟨M, hM⟩ : ∃ M, min (4 * q + 4) nu = M := ⟨_, rfl⟩
    have hmin : min (4 * (q : Int) + 4) nu = M := by omega
    have hM1 : 4 * q <= M /\ M <= nu /\ M <= 4 * q + 4 := by omega
    go_wp2_with fail
    clear e4 e2 hx0' hx0
    go_loopw [3, 5] (fun v i wr => ∃ m : Nat, 4 * q <= m /\ m <= M /\ i = .int .i64 m /\ wr.ownsRow w.heap.size 3 1 v (plP nu (ask nu (says P A)) m).length (natVals (plP nu (ask nu (says P A)) m)) /\ St w wr) (fun v i wr => 5000 - (intOf i).toNat)
    case atStart => exact ⟨4 * q, by omega, by omega, by simp, owns_same (uh HX).1 (fun k hk => rfl), (uh HX).2.1.drewN nq⟩
    case round =>
     clear HX c1
     obtain ⟨m, hm1, hm2, rfl, own, hf⟩ := hrel
     have hp := (uh HH).still hf
     have c1 := hp.hp.c1
     have s := uh HS
     by_cases hlt2 : m < M
     ·obtain ⟨r0, r1⟩ := s.wd (aw nu + m / 4) (by omega)
      have BG := h_begins hp.hp hp.reads m (by omega) r0 r1
      have HBG := Hd BG; have HX := Hd (ai own hf); have HP := Hd hp
      clear BG own hf hp r0 r1
      go_wp2_with fail
      refine (uh HBG).mono ?_
      clear HBG
      rintro e w2 ⟨rfl, D⟩
      have D : Dr _ w2 := D
      by_cases hk : ask nu (says P A) m = 0
      ·have hbg : begs nu (ask nu (says P A)) m = false := by unfold begs; simp [hk]
       rw [hbg]
       have HD := Hd D
       clear D s
       go_wp2
       obtain ⟨own, hf⟩ := uh HX
       have hfd := (uh HD).still
       refine ⟨⟨m + 1, by omega, by omega, by go_num, ?_, hf.trans' hfd nE⟩, by simp [intOf]; omega⟩
       rw [plP_zero hk]
       exact owns_same own fun k hk => hfd.block k (own.lt k hk).2 id
      ·rw [begs_of s.inv hk]
       have hfd := D.still
       obtain ⟨own, hf⟩ := uh HX
       have own2 : w2.ownsRow w.heap.size 3 1 u3 _ _ := owns_same own fun k hk => hfd.block k (own.lt k hk).2 id
       have PL := h_place hb m (by omega) w2 (by omega) ((uh HP).still hfd).hp.c10
       have pll := plP_le (nu := nu) (K := ask nu (says P A)) m
       have HOW := Hd own2; have HF2 := Hd (hf.trans' hfd nE); have HK := Hd hk
       have lw := hf.size
       have lw2 := hfd.size
       generalize hgl : (plP nu (ask nu (says P A)) m).length = len at HOW pll
       generalize hgv : natVals (plP nu (ask nu (says P A)) m) = vals at HOW
       have HGL := Hd hgl; have HGV := Hd hgv
       clear hgl hgv own2 own hf hfd D s hk
       go_wp2_with (first | (go_at_call 50; refine PL.mono ?_; rintro e w' ⟨rfl, hh⟩; replace hh := hh.symm; subst hh) | (at_builtin; refine wpList_append_own_at _ rfl _ _ 45 rfl w.heap.size 3 i0 (.int .i64 0) 1 8 Tryz.underlying45 (uh HI).1 (uh HI).2.1 (uh HI).2.2.1 (uh HI).2.2.2 rfl (by decide) _ len vals rfl ((uh HOW).alloc _) _ 1 1 [.int .i64 ((fi nu : Int) + (m : Int) * 8)] rfl rfl ?c1 ?c2 ?c3 ?c4 ?c5 ?_) | fail)
       case c1 => exact cell_one_new _ _ _
       case c2 => intro q hq; simp at hq; subst hq; rfl
       case c3 => unfold maxLen; omega
       case c4 => omega
       case c5 => simp <;> omega
       intro v' w6 hown hgrow hnil hloc
       have HG := Hd (ai hown hgrow)
       clear hown hgrow hnil hloc
       go_wp2
       obtain ⟨hown, hgrow⟩ := uh HG
       have hk := uh HK
       refine ⟨⟨m + 1, by omega, by omega, by go_num, ?_, ?_⟩, by simp [intOf]; omega⟩
       ·rw [plP_one hk]
        have := hown
        rw [<- uh HGL, <- uh HGV] at this
        simpa [natVals] using this
       ·exact ((uh HF2).alloc _).grown hgrow (fun k hk => .inr ((uh HOW).lt k hk).1)
     ·have : m = M := by omega
      subst this
      have HX := Hd (ai own hf)
      clear own hf hp s
      go_wp2
      obtain ⟨own, hf⟩ := uh HX
      refine ⟨⟨q + 1, by omega, by go_num, ?_, hf⟩, by simp [intOf]; omega⟩
      have hpast : plU (ask nu (says P A)) m = plU (ask nu (says P A)) (4 * (q + 1)) := by
       by_cases e : m = 4 * (q + 1)
       ·rw [e]
       ·have hm : m = nu := by omega
        rw [hm]
        exact (plU_past (fun u hu => ((uh HS).inv.asks u hu).1) (by omega)).symm
      unfold plP at own ⊢
      rw [<- hpast]; exact own
  ·have hqq : q = qa nu := by omega
   subst hqq
   have HX := Hd (ai own hf)
   clear own hf hp s
   go_wp2
   go_ret
   obtain ⟨own, hf⟩ := uh HX
   refine ⟨_, rfl, ?_, hf⟩
   have hpast : plP nu (ask nu (says P A)) (4 * qa nu) = plP nu (ask nu (says P A)) nu := by
    unfold plP
    rw [plU_past (fun u hu => ((uh HS).inv.asks u hu).1) (by omega)]
   rw [hpast, plP_len] at own
   exact own
end
end
theorem rows_form {t : TypeId} {w : World} {base n : Nat} {v : Value} {xs : List Value} (h : w.ownsRow base t 1 v n xs) : ∃ pa pc, v = .slice pa n pc := by
 rcases h.2 with ⟨hv, hn⟩ | ⟨g, cap, cur, hv, _⟩
 ·exact ⟨none, 0, by rw [hn]; exact hv⟩
 ·exact ⟨_, cap, hv⟩
theorem infoS : (Tryz.prog.info? 80).map (fun i => (i.zero, i.size, i.bytes)) = some (some (.slice none 0 0), 1, 24) := by kernel_rfl
theorem infoT : (Tryz.prog.info? 9).map (fun i => (i.zero, i.size, i.bytes)) = some (some (.string ⟨#[]⟩), 1, 16) := by kernel_rfl
def cutA (a : Option Addr) (cap l : Nat) : Option Addr := if cap = l then a else a.map (·.add (l * 1))
theorem slice_run (a : Option Addr) (len cap l : Nat) (k : IntKind) (w : World) (hl : l <= len) : (Instr.slice 80 (.slice a len cap) (some (.int k (l : Nat))) none none).run Tryz.prog w = .ok (.slice (cutA a cap l) (len - l) (cap - l)) w := by
 obtain ⟨i, hi, hzz⟩ := Option.map_eq_some_iff.1 infoB
 simp only [Prod.mk.injEq] at hzz
 have he : Tryz.prog.elem 80 = 5 := by kernel_rfl
 have hs : (sizeOf 5).run Tryz.prog w = .ok 1 w := by simp [sizeOf, typeInfo, hi, hzz.2.1]
 rw [run_slice_l (P := Tryz.prog) w 80 a len cap (by rw [he]; exact Tryz.underlying80) k (l : Nat) (by omega) (by omega), he, hs]
 simp [Result.andThen, sliced, cutA]
theorem cut_nats (a : Option Addr) (len cap l : Nat) (w : World) (hc : len <= cap) (f : Nat -> Nat) (hN : Nats .u8 w a len f) : Nats .u8 w (cutA a cap l) (len - l) (fun t => f (l + t)) := by
 intro i hi
 obtain ⟨xb, xo, rfl, c⟩ := hN (l + i) (by omega)
 unfold cutA
 rw [if_neg (by omega)]
 have hadd : (⟨xb, xo, none⟩ : Addr).add (l * 1) = ⟨xb, xo + l, none⟩ := by unfold Addr.add; split <;> simp_all
 exact ⟨xb, xo + l, by simp only [Option.map_some, hadd], by rw [Nat.add_assoc]; exact c⟩
theorem make_bytes64 (n : Nat) (hn : n <= 1000000) (w : World) : ∃ w', (Instr.makeSlice 80 (.int .u64 (n : Int)) (.int .u64 (n : Int))).run Tryz.prog w = .ok (.slice (some ⟨w.heap.size, 0, none⟩) n n) w' /\ (∃ cur : List Value, w'.heap[w.heap.size]? = some (.cells cur.toArray 5 (0, 0)) /\ cur.length = n) /\ Below w.heap.size w w' :=
 ⟨_, run_make_row' 80 5 (.int .u8 0) 1 Tryz.underlying80 infoB rfl .u64 .u64 n (by omega) (by omega) w, ⟨(madeCells #[.int .u8 0] n).toList, by rw [heap_alloc_new], by simp [madeCells]⟩, (Below.refl _ w).alloc (Nat.le_refl _) _⟩
theorem cells_u8 : (Tryz.prog.info? 5).map (·.size) = some 1 := by
 obtain ⟨i, hi, hzz⟩ := Option.map_eq_some_iff.1 infoB
 simp only [Prod.mk.injEq] at hzz
 rw [hi]; simp [hzz.2.1]
theorem copy_all (w : World) (g d : Nat) (cur : List Value) (a : Option Addr) (n c : Nat) (f : Nat -> Nat) (hg : w.heap[g]? = some (.cells cur.toArray 5 (0, 0))) (hl : cur.length = d) (hd : d <= n) (hN : Nats .u8 w a n f) :
  ∃ w' v, (Builtin.copy_ #[80, 80] 3 #[.slice (some ⟨g, 0, none⟩) d d, .slice a n c]).run Tryz.prog w = .ok v w' /\ w'.heap[g]? = some (.cells (vals .u8 (rowL f d)).toArray 5 (0, 0)) /\ Fr (fun k => k = g) w w' := by
 by_cases h0 : d = 0
 ·have hc : cur = [] := List.eq_nil_of_length_eq_zero (by omega)
  refine ⟨w, _, run_copy_none (P := Tryz.prog) w 80 80 3 5 _ _ d d n c Tryz.underlying80 cells_u8 (by subst h0; exact Nat.min_zero _), ?_, Fr.refl _ _⟩
  rw [hg, hc, h0]; rfl
 ·obtain ⟨xb, xo, rfl, _⟩ := hN 0 (by omega)
  refine ⟨_, _, run_copy_row (P := Tryz.prog) w 80 80 3 5 g 0 d d ⟨xb, xo, none⟩ n c cur.toArray 5 (vals .u8 (rowL f d)) Tryz.underlying80 cells_u8 hg ?_ ?_ ?_ ?_, ?_, Fr.setRow _ _ _⟩
  ·simp [rowL]; exact (Nat.min_eq_right hd).symm
  ·intro j u hu
   have hj : j < d := by have := (List.getElem?_eq_some_iff.1 hu).1; simpa [rowL] using this
   obtain ⟨_, _, e, c⟩ := hN j (by omega)
   cases e
   have hadd : (⟨xb, xo, none⟩ : Addr).add j = ⟨xb, xo + j, none⟩ := by unfold Addr.add; split <;> simp_all
   rw [hadd, c, <- hu]
   simp [rowL, hj]
  ·simp [rowL]; omega
  ·intro u hu; simp at hu; obtain ⟨_, _, rfl⟩ := hu; rfl
  ·rw [setRow_heap w g _ _ 5 (0, 0) hg]
   congr 2
   simp [vals, rowL, hl]
theorem run_val {et st : TypeId} {z : Value} {bytes : Nat} (hinfo : (Tryz.prog.info? et).map (fun i => (i.zero, i.size, i.bytes)) = some (some z, 1, bytes)) (hz1 : z.cells.size = 1) (hbb : bytes <= 24) (hun : Tryz.prog.underlying st = some (.slice et))
  (w : World) (lo : Nat) (v : Value) (n : Nat) (xs : List Value) (hown : w.ownsRow lo et 1 v n xs) (y : Value) (hy : y.oneCell' = true) (hl : n <= 1000) (hlo : lo <= w.heap.size) :
  ∃ v' w', (Builtin.append_ #[st, st] st #[v, .slice (some ⟨w.heap.size, 0, none⟩) 1 1]).run Tryz.prog (w.alloc (.cells #[y] et)) = .ok v' w' /\ w'.ownsRow lo et 1 v' (n + 1) (xs ++ [y]) /\ Fr (fun k => v.ownBlock = some k) w w' /\ (v'.ownBlock = v.ownBlock \/ v'.ownBlock = some (w.heap.size + 1)) := by
 obtain ⟨i, hi, hzz⟩ := Option.map_eq_some_iff.1 hinfo
 simp only [Prod.mk.injEq] at hzz
 obtain ⟨hz, hsize, hby⟩ := hzz
 have hA : (w.alloc (.cells #[y] et)).heap.size = w.heap.size + 1 := by simp
 have own1 : (w.alloc (.cells #[y] et)).ownsRow lo et 1 v n xs := owns_same hown fun k hk => ((Fr.refl (fun _ => False) w).alloc _).block k (hown.lt k hk).2 id
 obtain ⟨v', w', hr, h2, h3, _, h5⟩ := run_append_own_at (P := Tryz.prog) (w.alloc (.cells #[y] et)) lo st st et i z 1 bytes hun hi hz hsize hby hz1 (by decide) v n xs own1 ⟨w.heap.size, 0, none⟩ 1 1 [y] rfl (cell_one_new w _ _) (by intro q hq; simp at hq; subst hq; exact hy) (by unfold maxLen; omega) (by have : (n + 1) * bytes <= 1001 * 24 := Nat.mul_le_mul (by omega) hbb; omega) (by rw [hA]; omega)
 exact ⟨v', w', hr, by simpa using h2, ((Fr.refl (fun k => v.ownBlock = some k) w).alloc _).grown h3 (fun r e => .inl e), by rw [hA] at h5; exact h5⟩
theorem joinF_data (L : Nat -> Nat) (Z : Nat -> Nat -> Nat) (n i t : Nat) (h : i < n) (hL : ∀ i, i < n -> L i < 16384) (ht : t < L i) : joinF L Z n (offL L i + (ul (L i) + t)) = Z i t := by
 obtain ⟨rest, e⟩ := join_part L Z n i h
 have hl := join_len L Z i (fun j hj => hL j (by omega))
 have hu := uv_ul _ (hL i h)
 unfold joinF
 rw [List.getD_eq_getElem?_getD, e, List.getElem?_append_right (by omega), hl, show offL L i + (ul (L i) + t) - offL L i = ul (L i) + t by omega]
 unfold partL
 rw [List.append_assoc, List.getElem?_append_right (by omega), hu, show ul (L i) + t - ul (L i) = t by omega, List.getElem?_append_left (by rw [rowL_len]; exact ht), <- List.getD_eq_getElem?_getD, rowL_get _ _ _ ht]
theorem nats_fr {k : IntKind} {w w' : World} {a : Option Addr} {n : Nat} {bt : Nat -> Nat} (h : Nats k w a n bt) {F : Nat -> Prop} (f : Fr F w w') (hn : ∀ x, a = some x -> ¬ F x.block) : Nats k w' a n bt := fun i hi => by
 obtain ⟨xb, xo, e, c⟩ := h i hi
 exact ⟨xb, xo, e, f.cell' c (hn ⟨xb, xo, none⟩ e)⟩
def ptsV (G L : Nat -> Nat) (i : Nat) : List Value := (List.range i).map fun t => .slice (some ⟨G t, 0, none⟩) (L t) (L t)
theorem ptsV_succ (G L : Nat -> Nat) (i : Nat) : ptsV G L (i + 1) = ptsV G L i ++ [.slice (some ⟨G i, 0, none⟩) (L i) (L i)] := by simp [ptsV, List.range_succ]
theorem ptsV_congr (G G' L : Nat -> Nat) (i : Nat) (h : ∀ t, t < i -> G t = G' t) : ptsV G L i = ptsV G' L i := by
 unfold ptsV
 exact List.map_congr_left fun t ht => by rw [h t (by simpa using ht)]
def PtB (w : World) (g n : Nat) (f : Nat -> Nat) : Prop := w.heap[g]? = some (.cells (vals .u8 (rowL f n)).toArray 5 (0, 0))
theorem PtB.kept {w w' : World} {g n : Nat} {f : Nat -> Nat} (h : PtB w g n f) {F : Nat -> Prop} (fr : Fr F w w') (hn : ¬ F g) : PtB w' g n f := fr.obj h hn
theorem PtB.nats {w : World} {g n : Nat} {f : Nat -> Nat} (h : PtB w g n f) : Nats .u8 w (some ⟨g, 0, none⟩) n f := fun i hi => ⟨g, 0, rfl, by
 have := cOo h (0 + i)
 rw [this]
 simp [vals, rowL, hi]⟩
def lenOf : Value -> Nat | .slice _ m _ => m | _ => 0
set_option maxRecDepth 100000 in
theorem split_all (a : Option Addr) (k cap n : Nat) (L : Nat -> Nat) (Z : Nat -> Nat -> Nat) (w : World) (hN : Nats .u8 w a k (joinF L Z n)) (hk : k = offL L n) (hkc : k <= cap) (hn : n <= 200) (hL : ∀ i, i < n -> L i <= 3000) (hk2 : k <= 100000) :
  Calls Tryz.prog 165 #[.slice a k cap] w fun e w' => ∃ G pv, e = .returned (.tuple #[pv, .int .i64 0]) /\ St w w' /\ w'.ownsRow w.heap.size 80 1 pv n (ptsV G L n) /\ ∀ t, t < n -> w.heap.size <= G t /\ pv.ownBlock ≠ some (G t) /\ PtB w' (G t) (L t) (Z t) := by
 have HN := @Hd _ hN
 have HL := @Hd _ hL
 have HAt := @Hd _ (fun i hi => joinF_at L Z n i hi (fun j hj => by have := hL j hj; omega))
 have HDt := @Hd _ (fun i t hi ht => joinF_data L Z n i t hi (fun j hj => by have := hL j hj; omega) ht)
 have KV := @Hd _ var_ok
 have HKC := Hd hkc
 have offm : ∀ i, i <= n -> offL L i <= k := fun i hi => by
  rcases Nat.lt_or_ge i n with h | h
  ·have := off_lt L i n h; omega
  ·have e : i = n := by omega
   subst e; omega
 have HOF := @Hd _ offm
 clear hN hL offm
 go_enter Tryz.func165, Tryz.ntmps165
 go_wp2_with fail
 go_loopw [0, 4] (fun vb vp wr => ∃ (i c : Nat) (ab : Option Addr) (G : Nat -> Nat), vb = .slice ab (k - offL L i) c /\ Hid (i <= n /\ k - offL L i <= c /\ (∀ w2, St w w2 -> Nats .u8 w2 ab (k - offL L i) (fun t => joinF L Z n (offL L i + t))) /\ wr.ownsRow w.heap.size 80 1 vp i (ptsV G L i) /\ (∀ t, t < i -> w.heap.size <= G t /\ vp.ownBlock ≠ some (G t) /\ PtB wr (G t) (L t) (Z t)) /\ St w wr)) (fun vb vp wr => lenOf vb)
 case atStart => exact ⟨0, cap, a, fun _ => 0, rfl, Hd ⟨Nat.zero_le _, by simpa [offL] using uh HKC, fun w2 h => by simpa [offL] using nats_fr (uh HN) h (fun _ _ x => x), World.ownsRow_nil _ _ _ _, fun t ht => by omega, Fr.refl _ _⟩⟩
 case round =>
  obtain ⟨i, c, ab, G, rfl, HI⟩ := hrel
  generalize wr = wq at *
  clear wr
  obtain ⟨hin, hc, hNa, hX, hG, hB⟩ := uh HI
  have hof := uh HOF i hin
  by_cases hend : i = n
  ·subst hend
   have he : k - offL L i = 0 := by omega
   rw [he]
   obtain ⟨pa, pc, rfl⟩ := rows_form hX
   have HE := Hd (ai hX (ai hG hB))
   clear HI hX hG hNa hB hc hof he HN HL HAt HDt KV HKC HOF
   go_wp2
   go_ret2
   obtain ⟨hX, hG, hB⟩ := uh HE
   exact ⟨G, _, rfl, hB, hX, hG⟩
  ·have hi : i < n := by omega
   have hli := uh HL i hi
   obtain ⟨hA1, hA2⟩ := uh HAt i hi
   have hstep : offL L (i + 1) = offL L i + (ul (L i) + L i) := rfl
   have hup := ul_pos (L i)
   have hnx := uh HOF (i + 1) (by omega)
   have hpos : (0 : Int) < ((k - offL L i : Nat) : Int) := by omega
   have KV1 := Hd (uh KV ab (k - offL L i) c (fun t => joinF L Z n (offL L i + t)) (L i) wq (hNa wq hB) (by omega) (by omega) (by omega) hA1 (fun h => ⟨(hA2 h).1, fun _ => (hA2 h).2⟩))
   have htorn : L i < 128 \/ 2 <= k - offL L i := by
    by_cases h : L i < 128
    ·exact .inl h
    ·right; unfold ul at hstep; rw [if_neg h] at hstep; omega
   have hv : varR (L i) (k - offL L i) = #[.int .u64 (L i : Nat), .int .i64 (ul (L i) : Nat), .int .i64 0] := by unfold varR; rw [if_pos htorn]
   rw [hv] at KV1
   have hum : ul (L i) <= k - offL L i := by omega
   have hs1 := slice_run ab (k - offL L i) c (ul (L i)) .i64 wq hum
   have hbig' : ¬ ((k - offL L i - ul (L i) : Nat) : Int) < (L i : Nat) := by omega
   have hmm : k - offL L i - ul (L i) <= 100000 := by omega
   have hNB : ∀ w2, St w w2 -> Nats .u8 w2 (cutA ab c (ul (L i))) (k - offL L i - ul (L i)) (fun t => joinF L Z n (offL L i + (ul (L i) + t))) := fun w2 h => cut_nats ab (k - offL L i) c (ul (L i)) w2 hc _ (hNa w2 h)
   obtain ⟨w1, hmk, ⟨cur, hcur, hcl⟩, hB1⟩ := make_bytes64 (L i) (by omega) wq
   have f1 : St wq w1 := Fr.ofBelow hB1
   have f01 : St w w1 := hB.trans' f1 nE
   obtain ⟨w2, cv, hcp, hcell, f2⟩ := copy_all w1 wq.heap.size (L i) cur (cutA ab c (ul (L i))) (k - offL L i - ul (L i)) (c - ul (L i)) _ hcur hcl (by omega) (hNB w1 f01)
   have f02 : St wq w2 := f1.trans' f2 (fun k hk => .inr (by have hk : k = wq.heap.size := hk; omega))
   have pb2 : PtB w2 wq.heap.size (L i) (Z i) := by
    unfold PtB
    rw [hcell]
    congr 2
    unfold rowL vals
    rw [List.map_map, List.map_map]
    congr 1
    exact List.map_congr_left fun t ht => by
     show Value.int .u8 ((joinF L Z n (offL L i + (ul (L i) + t)) : Nat) : Int) = Value.int .u8 ((Z i t : Nat) : Int)
     rw [uh HDt i t hi (by simpa using ht)]
   obtain ⟨v3, w3, h36, own3, fr3, loc3⟩ := run_val infoS rfl (by decide) Tryz.underlying216 w2 w.heap.size u4 i (ptsV G L i) (owns_same hX fun k hk => f02.block k (hX.lt k hk).2 id) (.slice (some ⟨wq.heap.size, 0, none⟩) (L i) (L i)) rfl (by omega) (Nat.le_trans hB.size f02.size)
   have z2 : wq.heap.size < w2.heap.size := (Array.getElem?_eq_some_iff.1 hcell).1
   have gol : ∀ t, t < i -> G t < wq.heap.size := fun t ht => (Array.getElem?_eq_some_iff.1 (hG t ht).2.2).1
   have HNX := Hd (show ∃ G', w3.ownsRow w.heap.size 80 1 v3 (i + 1) (ptsV G' L (i + 1)) /\ (∀ t, t < i + 1 -> w.heap.size <= G' t /\ v3.ownBlock ≠ some (G' t) /\ PtB w3 (G' t) (L t) (Z t)) /\ St w w3 from by
    refine ⟨fun t => if t = i then wq.heap.size else G t, ?_, fun t ht => ?_, ?_⟩
    ·rw [ptsV_succ, ptsV_congr _ G L i (fun t ht => if_neg (by omega))]
     simpa using own3
    ·have hx4 : ∀ g, u4.ownBlock = some g -> g < wq.heap.size := fun g hg => (hX.lt g hg).2
     by_cases e : t = i
     ·subst e
      simp only [if_true]
      refine ⟨hB.size, fun e => ?_, pb2.kept fr3 (fun e => by have := hx4 _ e; omega)⟩
      rcases loc3 with h | h
      ·rw [h] at e; have := hx4 _ e; omega
      ·rw [h] at e; have := Option.some.inj e; omega
     ·simp only [if_neg e]
      obtain ⟨p1, p2, p3⟩ := hG t (by omega)
      have := gol t (by omega)
      refine ⟨p1, fun e => ?_, (p3.kept f02 id).kept fr3 p2⟩
      rcases loc3 with h | h
      ·rw [h] at e; exact p2 e
      ·rw [h] at e; have := Option.some.inj e; omega
    ·exact (hB.trans' f02 nE).trans' fr3 (fun k hk => .inr (hX.lt k hk).1))
   have H36 := Hd h36
   have HST := Hd (ai hstep (ai hc (ai hum hnx)))
   have HNB := @Hd _ hNB
   have hs2 := fun w => slice_run (cutA ab c (ul (L i))) (k - offL L i - ul (L i)) (c - ul (L i)) (L i) .u64 w (by omega)
   clear HI hX hG hNa hB hA1 hA2 hv hstep htorn hend hcur hcl hB1 f1 f01 f2 f02 pb2 own3 fr3 loc3 h36 hcell z2 gol hNB hc hnx hof HN HL HAt HDt KV HOF
   generalize hu : ul (L i) = u at *
   generalize hm2 : k - offL L i - u = m2 at *
   generalize hm : k - offL L i = m at *
   generalize ha2 : cutA ab c u = ab2 at *
   generalize hlk : L i = li at *
   have HEQ := Hd (ai hu (ai hm2 (ai hm (ai ha2 hlk))))
   clear hu hm2 hm ha2 hlk
   go_wp2_with fail
   refine (uh KV1).mono ?_
   rintro e w' ⟨rfl, h⟩; rw [h]; clear h w'
   go_wp2_with (at_builtin; refine wpList_append_run rfl (.tmp 34) (.tmp 36) 216 rfl _ _ rfl rfl v3 w3 (uh H36) ?_)
   have HFN := Hd (show k - offL L (i + 1) = m2 - li /\ k - offL L (i + 1) <= c - u - li /\ m2 - li < m /\ ∀ t, offL L i + (u + (li + t)) = offL L (i + 1) + t by
    obtain ⟨e1, e2, e3, _, e5⟩ := uh HEQ
    obtain ⟨e6, e7, e8, e9⟩ := uh HST
    rw [e6]
    refine ⟨by omega, by omega, by omega, fun t => by omega⟩)
   go_wp2
   go_roundw
   case rel =>
    obtain ⟨f2, f3, _, f5⟩ := uh HFN
    obtain ⟨G', o3, g3, b3⟩ := uh HNX
    refine ⟨i + 1, c - u - li, cutA ab2 (c - u) li, G', by rw [f2], Hd ⟨by omega, f3, fun w4 h4 => ?_, o3, g3, b3⟩⟩
    have h5 := cut_nats ab2 m2 (c - u) li w4 (by have := (uh HST).2.1; have e := uh HEQ; omega) _ (uh HNB w4 h4)
    rw [f2]
    intro t ht
    obtain ⟨xb, xo, e, cc⟩ := h5 t ht
    refine ⟨xb, xo, e, ?_⟩
    rw [cc]
    show some (Value.int .u8 ((joinF L Z n (offL L i + (u + (li + t))) : Nat) : Int)) = _
    rw [f5 t]
   case measure =>
    have := uh HFN
    simp [lenOf]; omega
abbrev hdV (h i b : Nat) : Value := .agg #[.int .i64 h, .int .i64 i, .int .i64 b]
abbrev hdO (h i b : Nat) : Obj := .cells #[.int .i64 h, .int .i64 i, .int .i64 b] 101
def hsz (i b : Nat) : Nat := i + need b
def hwN (h i b : Nat) : Nat := 8390880540210757632 + h * 16777216 + i * 65536 + b
abbrev kdV (a p : Nat) : Value := .agg #[.int .u64 a, .int .i64 p]
def itN (a p : Nat) : Nat := p * 4294967296 + a
theorem y_must (w : World) : Calls Tryz.prog 75 #[.bool true] w fun e w' => e = .returned (.tuple #[]) /\ w' = w := by
 go_enter Tryz.func75, Tryz.ntmps75
 go_wp2
 go_end0
 exact ⟨rfl, rfl⟩
theorem it_parts (a p : Nat) (ha : a < 4294967296) (hp : p < 2147483648) : bits .and .u64 ((itN a p : Nat) : Int) 4294967295 = (a : Nat) /\ ((itN a p : Nat) : Int) / 4294967296 = (p : Nat) /\ itN a p < 18446744073709551616 := by
 have hl : itN a p < 18446744073709551616 := by unfold itN; omega
 refine ⟨?_, ?_, hl⟩
 ·rw [show (4294967295 : Int) = ((4294967295 : Nat) : Int) from rfl, u64_and_nat _ _ hl (by decide), show (4294967295 : Nat) = 2 ^ 32 - 1 from rfl, Nat.and_two_pow_sub_one_eq_mod]
  unfold itN
  congr 1
  omega
 ·unfold itN; omega
theorem y_kidOf (a p : Nat) (ha : a < 4294967296) (hp : p < 2147483648) (w : World) : Calls Tryz.prog 83 #[.int .u64 (itN a p)] w fun e w' => e = .returned (kdV a p) /\ St w w' := by
 obtain ⟨e1, e2, _⟩ := it_parts a p ha hp
 generalize itN a p = x at *
 have e3 : IntKind.i64.wrap (p : Int) = p := (wrap_small _ (by omega) (by omega)).1
 go_enter Tryz.func83, Tryz.ntmps83
 go_wp2
 refine bodyPost_ret (results_cell_row Tryz.results83 _ _ w.heap.size 131 #[.int .u64 a, .int .i64 p] (0, 0) _ (by rfl) (heap_alloc_new w _) Tryz.underlying131 rfl (by kernel_rfl)) rfl ?_
 exact ⟨rfl, (Fr.refl _ w).alloc _⟩
theorem y_size (h i b : Nat) (hi : i < 256) (hb : b < 65536) (w : World) : Calls Tryz.prog 82 #[hdV h i b] w fun e w' => e = .returned (.int .i64 (hsz i b)) /\ St w w' := by
 have ND := wneed_ok b (by omega)
 have hd : 1 <= need b /\ need b <= 10000 := by unfold need; omega
 unfold hsz
 unfold hdV
 obtain ⟨W, hW⟩ : ∃ W, w.alloc (hdO h i b) = W := ⟨_, rfl⟩
 have fW : St w W := hW ▸ (Fr.refl _ w).alloc _
 have bW : W.heap[w.heap.size]? = some (.cells #[.int .i64 h, .int .i64 i, .int .i64 b] 101 (0, 0)) := hW ▸ heap_alloc_new w _
 have c1 : W.cell? ⟨w.heap.size, 1, none⟩ = some (.int .i64 i) := cOo bW 1
 have c2 : W.cell? ⟨w.heap.size, 2, none⟩ = some (.int .i64 b) := cOo bW 2
 generalize need b = d at *
 have HW := Hd hW; have HF := Hd fW
 clear hW fW bW
 go_enter Tryz.func82, Tryz.ntmps82
 go_wp2_with fail
 rw [uh HW]
 generalize w.heap.size = g at *
 go_region_held (fun w' => w'.cell? ⟨g, 1, none⟩ = some (.int .i64 i) /\ w'.cell? ⟨g, 2, none⟩ = some (.int .i64 b)) (go_keep) (first | (go_at_call 136; refine (ND _).mono ?_; rintro e w' ⟨rfl, rfl⟩))
 have w1 : IntKind.i64.wrap ((i : Int) + d) = (i : Int) + d := (wrap_small _ (by omega) (by omega)).1
 rw [w1]
 go_wp2
 go_ret
 exact ⟨by simp only [Int.natCast_add]; rfl, (uh HF).drewN 1⟩
theorem or_head (h i b : Nat) (hh : h < 256) (hi : i < 256) (hb : b < 65536) : bits .or .u64 (bits .or .u64 (bits .or .u64 8390880540210757632 ((h * 16777216 : Nat) : Int)) ((i * 65536 : Nat) : Int)) ((b : Nat) : Int) = ((hwN h i b : Nat) : Int) := by
 rw [show (8390880540210757632 : Int) = ((8390880540210757632 : Nat) : Int) from rfl, u64_or_nat _ _ (by omega) (by omega)]
 have e1 : 8390880540210757632 ||| h * 16777216 = 8390880540210757632 + h * 16777216 := by
  have := Nat.two_pow_add_eq_or_of_lt (i := 32) (b := h * 16777216) (by omega) 1953654117
  rw [show (2 : Nat) ^ 32 * 1953654117 = 8390880540210757632 by omega] at this
  exact this.symm
 rw [e1, u64_or_nat _ _ (by omega) (by omega)]
 have e2 : (8390880540210757632 + h * 16777216) ||| i * 65536 = 8390880540210757632 + h * 16777216 + i * 65536 := by
  have := Nat.two_pow_add_eq_or_of_lt (i := 24) (b := i * 65536) (by omega) (500135453952 + h)
  rw [show (2 : Nat) ^ 24 * (500135453952 + h) = 8390880540210757632 + h * 16777216 by omega] at this
  exact this.symm
 rw [e2, u64_or_nat _ _ (by omega) (by omega)]
 have e3 : (8390880540210757632 + h * 16777216 + i * 65536) ||| b = hwN h i b := by
  have := Nat.two_pow_add_eq_or_of_lt (i := 16) (b := b) (by omega) (128034676211712 + h * 256 + i)
  rw [show (2 : Nat) ^ 16 * (128034676211712 + h * 256 + i) = 8390880540210757632 + h * 16777216 + i * 65536 by omega] at this
  exact this.symm
 rw [e3]
theorem y_word (h i b : Nat) (hh : h < 256) (hi : i < 256) (hb : b < 65536) (w : World) : Calls Tryz.prog 158 #[hdV h i b] w fun e w' => e = .returned (.int .u64 (hwN h i b)) /\ St w w' := by
 have HO := Hd (or_head h i b hh hi hb)
 have w1 : IntKind.u64.wrap ((h : Int) * 16777216) = ((h * 16777216 : Nat) : Int) := by rw [IntKind.wrap_u64]; omega
 have w2 : IntKind.u64.wrap ((i : Int) * 65536) = ((i * 65536 : Nat) : Int) := by rw [IntKind.wrap_u64]; omega
 have w3 : IntKind.u64.wrap (h : Int) = h := by rw [IntKind.wrap_u64]; omega
 have w4 : IntKind.u64.wrap (i : Int) = i := by rw [IntKind.wrap_u64]; omega
 have w5 : IntKind.u64.wrap (b : Int) = b := by rw [IntKind.wrap_u64]; omega
 go_enter Tryz.func158, Tryz.ntmps158
 go_wp2
 go_ret
 refine ⟨?_, (Fr.refl _ w).alloc _⟩
 have := uh HO
 simp only [Int.natCast_mul] at this ⊢
 rw [<- this]; rfl
end Go.Proofs.YtbpndmghlnadiaaGreatDoor
