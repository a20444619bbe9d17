/- Joined: Kg Kv Ku Kz Kq. -/
import Derived.Test.YtkaplgmjdfmpmaaGreatDoorQ05
import Derived.Test.YtkaplgmjdfmpmaaGreatDoorQ25
import Derived.Test.YtkaplgmjdfmpmaaGreatDoorQ30
import Derived.Test.YtkaplgmjdfmpmaaGreatDoorQ31
import Derived.Test.YtkaplgmjdfmpmaaGreatDoorQ34
namespace Go.Proofs.YtkaplgmjdfmpmaaGreatDoor
open Go.RowKit

section
section
variable {nu sz : Nat} {w w' w0 w1 : World} {X Y : Nat → Prop} {hb sb b : Nat} {T : Tay} {A : Ab} {N : Nat} {free : Prop} {s : Int} {base : Nat → Int}
theorem HpC.back (h : HpC nu sz w1 X w hb sb b T A N free s base) (f : Still w0 w1) (l0 : 0 < w0.heap.size) (hY : ∀ k, Y k → X k ∨ (w0.heap.size ≤ k ∧ k < w1.heap.size)) (hy : Y hb) : HpC nu sz w0 Y w hb sb b T A N free s base := by
  refine ⟨⟨h.hd.st, f.trans' h.hd.fr (fun _ x => x.elim), fun k hk => Nat.le_trans f.size (h.hd.new k hk), fun k hk => ?_, fun k hk => ?_⟩, h.cl, h.hp, hy, l0⟩
  · rcases hY k hk with e | e
    · exact h.hd.ap k e
    · exact fun ht => by have := h.hd.new k ht; omega
  · rcases hY k hk with e | e
    · exact ⟨Nat.le_trans f.size (h.hd.xl k e).1, (h.hd.xl k e).2⟩
    · exact ⟨e.1, Nat.lt_of_lt_of_le e.2 h.hd.fr.size⟩
end

section
variable {nu sz : Nat} {w w' w0 : World} {X : Nat → Prop} {hb sb b bs bh br bi N : Nat} {T : Tay} {A : Ab} {s : Int} {base : Nat → Int} {r i : Nat} {L : List Pr} {Q : List Nat}
end
end

section
section
variable {nu sz : Nat} {w w' w0 : World} {X : Nat → Prop} {hb sb b br N : Nat} {T : Tay} {A : Ab} {s : Int} {base : Nat → Int}
def TrR (nu sz lo : Nat) (A : Ab) (br : Nat) (L' : List Pr) (Y : Nat → Prop) (h : How) (P' : List (Int × Int)) (w' : World) : Prop :=
  h = .well ∧ ∃ r' Q' v', (Y br ∧ ∀ k, Value.ownBlock v' = some k → Y k) ∧ RtL w' br r' v' ∧ w'.ownsRow lo 43 2 v' L'.length (pcl L') ∧ Tre nu sz (says P' A) r' L' Q'
theorem TrR_stays (nu sz lo : Nat) (A : Ab) (br : Nat) (L' : List Pr) : StaysY (TrR nu sz lo A br L') := by
  rintro Y h P w w' F ⟨q, r', Q', v', ⟨y1, y2⟩, b1, row, t⟩ hf hn
  exact ⟨q, r', Q', v', ⟨y1, y2⟩, b1.kept hf (hn br y1), row_kept row hf (fun k hk => hn k (y2 k hk)), t⟩
theorem put_doL {g : Nat} {fi ca : Array Value} {L' : List Pr} (hc : HpC nu sz w0 X w hb sb b T A N True s base) (hX : X br) (hh : hb ≠ br) (en : ∀ args w, (callFunc g args).run Tryz.prog w = .ok (.enter g args) w)
    (C : ∀ w1, Still w w1 → Calls Tryz.prog g (fi ++ ca) w1 fun e w' => e = .returned (.tuple #[]) ∧ PutL nu sz w1 sb b T A br L' w') (hs : s + 30729 < 4294967296) :
    Calls Tryz.prog 9 #[ptr sb, .func (.func g) fi ca] w fun e w' => e = .returned (.int .i64 0) ∧ Fr (fun k => tfoot sb b T k ∨ k = br) w w' ∧ ∃ T' A' base' r' Q' v', HpC nu sz w0 (fun k => X k ∨ Value.ownBlock v' = some k) w' hb sb b T' A' N True (s + 30729) base' ∧ RtL w' br r' v' ∧ w'.ownsRow w.heap.size 43 2 v' L'.length (pcl L') ∧ Tre nu sz (rb base') r' L' Q' := by
  have DO := hc.doZ (V := fun k => k = br) (g := g) (fi := fi) (ca := ca) (R := TrR nu sz w.heap.size A br L') (fun k hk => by rw [hk]; exact hX) hh (TrR_stays _ _ _ _ _ _) (fun w3 f3 => acts_of en ((C w3 f3).mono (by
    rintro e w4 ⟨rfl, T', P', r', Q', v', o, b1, row, nv, nb, t⟩
    refine ⟨.well, rfl, .inl rfl, T', P', fun k => k = br ∨ v'.ownBlock = some k, o, fun k hk => ?_, rfl, r', Q', v', ⟨.inl rfl, fun k hk => .inr hk⟩, b1, row_lo row f3.size, t⟩
    rcases hk with rfl | hk
    · exact ⟨b1.lt, nb, .inl rfl⟩
    · exact ⟨(row.lt k hk).2, nv k hk, .inr (row.lt k hk).1⟩))) hs
  unfold DidZ at DO
  refine DO.mono ?_
  rintro e w' ⟨fr, ⟨P', T', A', Y, ⟨_, r', Q', v', ⟨_, y2⟩, b1, row, t⟩, rfl, hc'⟩ | ⟨i, P', T', Y, ⟨hi, _⟩, _⟩⟩
  · rw [hc.says P'] at t
    exact ⟨rfl, fr, T', A', _, r', Q', v', hc'.sub (fun k hk => hk.imp id (y2 k)) (.inl hc.xh), b1, row, t⟩
  · exact (well_errno hi.symm).elim
end
end

section
theorem geP_snoc (x : ByteArray) (L : List Pr) (p : Pr) : geP x (L ++ [p]) = geP x L ++ (if ltK p.1 x then [] else [p]) := by
  unfold geP
  rw [List.filter_append]
  congr 1
  by_cases h : ltK p.1 x
  · rw [if_pos h, List.filter_cons_of_neg (by simp [h]), List.filter_nil]
  · rw [if_neg h, List.filter_cons_of_pos (by simp [h]), List.filter_nil]
def cHi (hi : ByteArray) (p : Pr) : Bool := decide (hi.size = 0 ∨ ltK p.1 hi)
def wtP (L : List Pr) (x hi : ByteArray) (n : Int) : List Pr := ((geP x L).filter (cHi hi)).take n.toNat
theorem rise_filter {hi : ByteArray} : ∀ {M : List Pr}, Rise M → M.filter (cHi hi) = M.takeWhile (cHi hi)
  | [], _ => rfl
  | p :: M, h => by
    obtain ⟨h1, h2⟩ := List.pairwise_cons.1 h
    by_cases c : cHi hi p = true
    · rw [List.filter_cons_of_pos c, List.takeWhile_cons_of_pos c, rise_filter h2]
    · rw [List.filter_cons_of_neg c, List.takeWhile_cons_of_neg c]
      refine List.filter_eq_nil_iff.2 fun q hq hc => c ?_
      have := of_decide_eq_true hc
      exact decide_eq_true (this.imp id fun e => ltK_trans (h1 q hq) e)
theorem wtP_is {L : List Pr} (ri : Rise L) (x hi : ByteArray) (n : Int) : wtP L x hi n = rgP L x hi n := by
  unfold wtP rgP
  rw [rise_filter (M := geP x L) (List.Pairwise.filter _ ri)]
  rfl
theorem take_snoc {α : Type} (F : List α) (p : α) (N : Nat) : (F ++ [p]).take N = F.take N ++ (if F.length < N then [p] else []) := by
  rw [List.take_append]
  congr 1
  by_cases h : F.length < N
  · rw [if_pos h]
    obtain ⟨k, hk⟩ : ∃ k, N - F.length = k + 1 := ⟨N - F.length - 1, by omega⟩
    rw [hk]; simp
  · rw [if_neg h, show N - F.length = 0 by omega]; rfl
theorem wtP_snoc (L : List Pr) (p : Pr) (x hi : ByteArray) (n : Int) : wtP (L ++ [p]) x hi n = wtP L x hi n ++ (if ¬ ltK p.1 x ∧ cHi hi p = true ∧ ((wtP L x hi n).length : Int) < max n 0 then [p] else []) := by
  unfold wtP
  rw [geP_snoc]
  by_cases h : ltK p.1 x
  · rw [if_pos h, if_neg (fun e => e.1 h), List.append_nil, List.append_nil]
  · rw [if_neg h, List.filter_append]
    by_cases c : cHi hi p = true
    · rw [List.filter_cons_of_pos c, List.filter_nil, take_snoc]
      congr 1
      rw [List.length_take]
      by_cases e : ((geP x L).filter (cHi hi)).length < n.toNat
      · rw [if_pos e, if_pos ⟨h, c, by omega⟩]
      · rw [if_neg e, if_neg (fun q => by have := q.2.2; omega)]
    · rw [List.filter_cons_of_neg c, List.filter_nil, List.append_nil, if_neg (fun e => c e.2.1), List.append_nil]
theorem wtP_len (L : List Pr) (x hi : ByteArray) (n : Int) : (wtP L x hi n).length ≤ L.length := by
  unfold wtP
  rw [List.length_take]
  exact Nat.le_trans (Nat.min_le_right _ _) (Nat.le_trans (List.length_filter_le _ _) (List.length_filter_le _ _))
theorem getP_snoc {x : ByteArray} : ∀ {L : List Pr} {p : Pr}, Rise (L ++ [p]) → getP (L ++ [p]) x = if p.1 = x then some p.2 else getP L x
  | [], p, _ => by
    by_cases e : p.1 = x
    · simp [getP, e]
    · simp [getP, e]
  | q :: L, p, h => by
    rw [List.cons_append] at h
    obtain ⟨h1, h2⟩ := List.pairwise_cons.1 h
    have ih := getP_snoc (x := x) h2
    have hq : q.1 ≠ p.1 := ltK_ne (h1 p (List.mem_append_right _ (List.mem_singleton.2 rfl)))
    by_cases e : q.1 = x
    · have hp : p.1 ≠ x := fun e' => hq (e.trans e'.symm)
      simp [getP, e, hp]
    · have : getP (q :: (L ++ [p])) x = getP (L ++ [p]) x := by simp [getP, e]
      rw [List.cons_append, this, ih]
      simp [getP, e]
theorem rgP_none (L : List Pr) (x hi : ByteArray) (n : Int) (h : n < 1) : rgP L x hi n = [] := by
  unfold rgP
  rw [show n.toNat = 0 by omega, List.take_zero]
end

section
attribute [local go_sem] Oper.semAt_some

set_option maxRecDepth 100000 in
set_option maxHeartbeats 4000000 in
theorem y_Range0 (sb r : Nat) (x hi : ByteArray) (n : Int) (hn : n < 1) (w : World) :
    Calls Tryz.prog 14 #[ptr sb, .int .u64 (r : Nat), .string x, .string hi, .int .i64 n] w fun e w' => e = .returned (.slice none 0 0) ∧ Still w w' := by
  have hn1 : (n < 1) = True := by simp; omega
  refine calls_of_wpOf Tryz.func14 rfl ?_
  simp only [Tryz.ntmps14, List.size_toArray, List.length_cons, List.length_nil, Nat.reduceAdd, Nat.reduceSub, Array.replicate_succ, Array.replicate_zero, List.push_toArray, List.append_toArray, List.nil_append, List.cons_append]
  refine wpOf_seq (wpOf_of_wp ?_)
  go_wp2
  show wpOf _ _ _ _ _ _
  refine wpOf_seq (wpOf_of_wp ?_)
  go_wp2
  exact ⟨.slice none 0 0, results_tmp Tryz.results14 _ _ _, rfl, ((Fr.refl _ w).alloc _).alloc _⟩
theorem y_RangeA {nu sz : Nat} {hb sb b : Nat} {T : Tay} {A : Ab} {P : List (Int × Int)} {w : World} (h : Hp nu sz w hb sb b T A P) {r : Nat} {L : List Pr} {Q : List Nat} (rt : Rt nu sz (says P A) r L Q) (ri : Rise L) (pk : Pok L) (x hi : ByteArray) (n : Int) (hL : L.length ≤ 100000) :
    Calls Tryz.prog 14 #[ptr sb, .int .u64 (r : Nat), .string x, .string hi, .int .i64 n] w fun e w' => ∃ va vc, e = .returned (.slice va (rgP L x hi n).length vc) ∧ Lf w' va vc (rgP L x hi n) ∧ Still w w' := by
  by_cases hn : n < 1
  · refine (y_Range0 sb r x hi n hn w).mono ?_
    rintro e w' ⟨rfl, f⟩
    rw [rgP_none L x hi n hn]
    exact ⟨none, 0, rfl, sl_of_row (World.ownsRow_nil _ 0 43 _) pcl_one, f⟩
  · refine (y_Range h rt ri pk x hi n (by omega) hL).mono ?_
    rintro e w' ⟨v, rfl, row, f⟩
    obtain ⟨va, vc, rfl⟩ : ∃ va vc, v = .slice va (rgP L x hi n).length vc := by
      rcases row.2 with ⟨e, h0⟩ | ⟨gg, cap, _, e, _⟩
      · exact ⟨none, 0, by rw [e, h0]⟩
      · exact ⟨_, cap, e⟩
    exact ⟨va, vc, rfl, sl_of_row row pcl_one, f⟩
end

section
def pxN (v : Value) (w : World) : Nat := match v with
  | .pointer (some a) => bxN w a.block
  | _ => 0
theorem pxN_box {w : World} {q m : Nat} (h : Box w q (.int .i64 (m : Nat))) : pxN (ptr q) w = m := h.bxN
end
end Go.Proofs.YtkaplgmjdfmpmaaGreatDoor
