/- FrameSkips. -/
import Derived.Test.YtpidfndcihljmaaYk
import Derived.Test.YtpidfndcihljmaaIn
import Derived.Lib.AppendStr
namespace Go.Proofs.Ytpidfndcihljmaa
open Go.RowKit

/-- A text behind a row of one's own: how the append runs. -/
theorem run_str (w : World) (base : Nat) (v : Value) (l : List UInt8) (hown : Own w base v l) (m : List UInt8) (hl : l.length + m.length ≤ 100000000) (hbase : base ≤ w.heap.size) :
    ∃ v' w', (Builtin.append_ #[26, 9] 26 #[v, .string (bs m)]).run Try.prog w = .ok v' w' ∧ Own w' base v' (l ++ m) ∧ Fr (fun k => v.ownBlock = some k) w w' := by
  obtain ⟨i, hi, hzz⟩ := Option.map_eq_some_iff.1 infoB
  simp only [Prod.mk.injEq] at hzz
  obtain ⟨hz, hsize, hby⟩ := hzz
  obtain ⟨v', w', hr, h2, h3, _⟩ := Lib.run_append_own_string (P := Try.prog) w base 26 9 26 5 i Try.underlying26 Try.underlying9 hi hz hsize hby v l.length _ hown (bs m) (by rw [bs_size]; unfold maxLen; omega) (by rw [bs_size]; omega) hbase
  refine ⟨v', w', hr, ?_, (Fr.refl _ w).grown h3 (fun r e => .inl e)⟩
  unfold Own
  rw [List.length_append, List.map_append]
  rw [bs_size] at h2
  have e : Lib.strCells (bs m) = m.map bv := by simp [Lib.strCells, bs]
  rw [e] at h2
  exact h2
theorem wpList_append_run2 {P : Program} {w : World} {ops : Array Oper} {rest : List Oper} {o : Oper} {a : Act} {Q : Exit → Act → World → Prop} (hgd : o.guard = none) (s x : Operand) (t u : TypeId)
    (ho : o.op = .call { callee := .builtin .append, args := #[s, x], argTypes := #[t, u] }) (vs vx : Value) (hs : a.eval s = vs) (hx : a.eval x = vx) (v' : Value) (w' : World) (hr : (Builtin.append_ #[t, u] o.type #[vs, vx]).run P w = .ok v' w')
    (h : wpList P ops Q rest (a.put o.dst v') w') : wpList P ops Q (o :: rest) a w := by
  refine wpList_plain hgd fun K hK => ?_
  unfold Oper.wp execOp
  simp only [ho, resolve, invoke, builtin, Sem.run_bind, Sem.run_pure, Result.andThen_ok, List.map_toArray, List.map_cons, List.map_nil, hs, hx, hr]
  exact hK _ _ h
/-- A row of one's own, as a slice that is read. -/
theorem Own.sl2 {w : World} {base : Nat} {v : Value} {l : List UInt8} (h : Own w base v l) : ∃ a cap, v = .slice a l.length cap ∧ Sl w a l.length cap l ∧ (∀ x, a = some x → base ≤ x.block ∧ x.block < w.heap.size) ∧ ∀ x, a = some x → ∃ b o, x = ⟨b, o, none⟩ := by
  obtain ⟨a, cap, h1, h2, h3, h4, h5, h6⟩ := h.rd
  refine ⟨a, cap, h1, ⟨rfl, h2, h3, fun e => (h5 e).1, fun x e _ => h6 x e⟩, fun x e => ?_, h6⟩
  obtain ⟨b, o, rfl⟩ := h6 x e
  exact ⟨(h4 b o e).1, (h4 b o e).2.1⟩
/-- What is fed: n bytes, then a line. -/
def skD (n : Nat) : List UInt8 := (List.range n).map (fun i => [10, 97, 98].getD (i % 3) 0) ++ [110, 101, 120, 116, 10]
theorem skD_len (n : Nat) : (skD n).length = n + 5 := by simp [skD]
theorem skD_drop (n : Nat) : (skD n).drop n = [110, 101, 120, 116, 10] := by
  unfold skD
  rw [List.drop_left' (by simp)]
/-- What is left when T were fed, n and m skipped, then the rest fed. -/
theorem skD_rest (D : List UInt8) (T n m : Nat) (hT : T ≤ D.length) : ((D.take T).drop n).drop m ++ (D.drop T).drop (0 + (n - (D.take T).length) + (m - ((D.take T).drop n).length)) = D.drop (n + m) := by
  rw [List.drop_drop, List.length_drop, List.length_take, Nat.min_eq_left hT, List.drop_drop]
  by_cases h : T ≤ n + m
  · rw [List.drop_eq_nil_of_le (by rw [List.length_take]; omega), List.nil_append]
    congr 1
    omega
  · rw [show T + (0 + (n - T) + (m - (T - n))) = T by omega]
    conv => rhs; rw [← List.take_append_drop T D]
    rw [List.drop_append_of_le_length (by rw [List.length_take]; omega)]
set_option maxRecDepth 100000 in
set_option maxHeartbeats 4000000 in
theorem skips_ok (n m t : Int) (W : World) : Calls Try.prog 4 #[iv n, iv m, iv t] W fun e w' => e = .returned (.bool true) ∧ Below W.heap.size W w' := by
  obtain ⟨a, ha0⟩ : ∃ a, msk n 255 = a := ⟨_, rfl⟩
  have m1 : bits .and .i64 n 255 = (a : Int) := ha0 ▸ mask_i64 n 255 (by omega)
  have l1 : a ≤ 255 := ha0 ▸ msk_le n 255
  obtain ⟨b, hb0⟩ : ∃ b, msk m 255 = b := ⟨_, rfl⟩
  have m2 : bits .and .i64 m 255 = (b : Int) := hb0 ▸ mask_i64 m 255 (by omega)
  have l2 : b ≤ 255 := hb0 ▸ msk_le m 255
  obtain ⟨c, hc0⟩ : ∃ c, msk t 511 = c := ⟨_, rfl⟩
  have m3 : bits .and .i64 t 511 = (c : Int) := hc0 ▸ mask_i64 t 511 (by omega)
  have l3 : c ≤ 511 := hc0 ▸ msk_le t 511
  clear ha0 hb0 hc0
  obtain ⟨p, hp⟩ : ∃ p, a + b = p := ⟨_, rfl⟩
  have hpi : (a : Int) + b = (p : Int) := by omega
  obtain ⟨w1, hmk, o1, s1, z1⟩ := make_ok p (by omega) W
  generalize hg : W.heap.size = g at *
  have H1 := hide (show Own w1 g (.slice (some ⟨g, 0, none⟩) p p) (rowF (fun i => [10, 97, 98].getD (i % 3) 0) p 0) by rw [rowF_zero]; exact o1)
  have S1 := hide s1
  clear o1 s1
  go_enter Try.func4, Try.ntmps4
  go_wp2_with fail
  clear hmk
  go_loopw [28] (fun i wp => ∃ k : Nat, i = iv k ∧ Hid (k ≤ p ∧ Own wp g (.slice (some ⟨g, 0, none⟩) p p) (rowF (fun i => [10, 97, 98].getD (i % 3) 0) p k) ∧ Fr (fun j => j = g) w1 wp)) (fun i wp => p - (RowKit.intOf i).toNat)
  case atStart => exact ⟨0, rfl, hide ⟨Nat.zero_le _, unhide H1, Fr.refl _ _⟩⟩
  case round =>
    obtain ⟨k, rfl, HI⟩ := hrel
    have hk := (unhide HI).1
    by_cases hlt : k < p
    · have hlt' : (k : Int) < p := by omega
      have hc := (unhide HI).2.1.at.2.2.2.2.1 k hlt
      have hz := (unhide HI).2.1.at.2.2.2.2.2 k
      have hm0 : (k : Int) % 3 = ((k % 3 : Nat) : Int) := by omega
      have hix : ∀ w, (Instr.index 9 (.string ⟨#[10, 97, 98]⟩) (.int .i64 ((k : Int) % 3))).run Try.prog w = .ok (bv ([10, 97, 98].getD (k % 3) 0)) w := fun w => by
        rw [hm0]
        refine bs_ix [10, 97, 98] (k % 3) _ ?_ w
        have h3 : k % 3 < 3 := Nat.mod_lt _ (by omega)
        rw [List.getD_eq_getElem?_getD, List.getElem?_eq_getElem (by simpa using h3)]
        rfl
      clear hm0
      have HY := hide (show bv ([10, 97, 98].getD (k % 3) 0) = bv ((fun i => [10, 97, 98].getD (i % 3) 0) k) from rfl)
      generalize ([10, 97, 98] : List UInt8).getD (k % 3) 0 = y at hix HY
      go_wp2_with fail
      exact ⟨⟨k + 1, by go_num, hide ⟨by omega, (unhide HI).2.1.fill (unhide HI).2.2 _ (unhide HY)⟩⟩, by simp [RowKit.intOf]; omega⟩
    · have hlt' : ¬ (k : Int) < p := by omega
      have o2 := (unhide HI).2.1
      rw [rowF_full _ _ _ (by omega)] at o2
      obtain ⟨v', w2, hap, o3, r3⟩ := run_str wr g _ _ o2 [110, 101, 120, 116, 10] (by simp; omega) (by have := (unhide HI).2.2.size; omega)
      obtain ⟨a2, cap2, rfl, hSl, hbl, hfo⟩ := o3.sl2
      have hD : (List.range p).map (fun i => ([10, 97, 98] : List UInt8).getD (i % 3) 0) ++ [110, 101, 120, 116, 10] = skD p := rfl
      rw [hD] at hSl hap o3
      generalize hDD : skD p = D at *
      have hDl : D.length = p + 5 := by rw [← hDD]; exact skD_len p
      have hDr := hide (show D.drop (a + b) = [110, 101, 120, 116, 10] by rw [← hDD, hp]; exact skD_drop p)
      rw [hDl] at hSl hap
      have hap : (Builtin.append_ #[26, 9] 26 #[.slice (some ⟨g, 0, none⟩) p p, .string ⟨#[110, 101, 120, 116, 10]⟩]).run Try.prog wr = .ok (.slice a2 (p + 5) cap2) w2 := hap
      have HAP := hide hap
      have HSl := hide hSl
      have S2 := hide (show Below W.heap.size W w2 by
        have h1 := (unhide S1).trans' (unhide HI).2.2 (fun j e => .inr (by omega))
        have h2 : Still W w2 := h1.trans' r3 (fun j e => .inr (by
          have e2 : g = j := by simpa [Value.ownBlock] using e
          omega))
        exact h2.below (Nat.le_refl _) (fun _ h => h.elim))
      have hcap2 : p + 5 ≤ cap2 := hSl.le
      obtain ⟨T, hT⟩ : ∃ T, min c (p + 5) = T := ⟨_, rfl⟩
      have hTi : min (c : Int) ((p : Int) + 5) = (T : Int) := by omega
      have HT := hide hT
      have hTp : T ≤ p + 5 := by omega
      have hs1 := fun w => slice_to a2 (p + 5) cap2 T .i64 w (by omega)
      have hs2 := fun w => slice_run a2 (p + 5) cap2 T .i64 w (by omega)
      clear hT HI hDD hD hSl hap o2 o3 r3 H1 S1 hk
      go_wp2_with (at_builtin; refine wpList_append_run2 rfl (.tmp 38) (.const (.string ⟨#[110, 101, 120, 116, 10]⟩)) 26 9 rfl _ _ rfl rfl _ w2 (unhide HAP) ?_)
      refine (new_ok w2).mono ?_
      rintro e w3 ⟨rfl, m3', s3⟩
      have F1 := Fs.new (Fr.refl _ w2) s3 m3'
      have hab : ∀ x, a2 = some x → x.block ≠ w2.heap.size := fun x e => by have := (hbl x e).2; omega
      have KF := hide (feed_ok F1.fm a2 T cap2 (D.take T) (((unhide HSl).still s3).take T (by omega)) (by omega) (by omega) hab no_lv)
      rw [feed_fresh] at KF
      have HF1 := hide F1
      clear m3' s3 F1 HAP
      go_wp2_with fail
      refine (unhide KF).mono ?_
      rintro e w4 ⟨rfl, g4, x4⟩
      have HF2 := hide ((unhide HF1).step x4)
      clear KF HF1 x4
      have KS := hide (skip_ok (unhide HF2).fm (by omega) (a : Int) (by omega))
      rw [Int.toNat_natCast] at KS
      go_wp2_with fail
      refine (unhide KS).mono ?_
      rintro e w5 ⟨rfl, g5, x5⟩
      have HF3 := hide ((unhide HF2).step x5)
      clear KS HF2 x5
      have htl : (D.take T).length = T := by rw [List.length_take]; omega
      rw [htl] at HF3
      have KS := hide (skip_ok (unhide HF3).fm (by omega) (b : Int) (by omega))
      rw [Int.toNat_natCast] at KS
      go_wp2_with fail
      refine (unhide KS).mono ?_
      rintro e w6 ⟨rfl, g6, x6⟩
      have HF4 := hide ((unhide HF3).step x6)
      clear KS HF3 x6
      have hrest := skD_rest D T a b (by omega)
      rw [unhide hDr, htl] at hrest
      rw [show ((D.take T).drop a).length = T - a by rw [List.length_drop, htl]] at HF4 hrest
      have hl4 : (((D.take T).drop a).drop b).length = T - a - b := by rw [List.length_drop, List.length_drop, htl]
      have hsk : 0 + (a - T) + (b - (T - a)) ≤ 510 := by omega
      have hlw : T < p → ((((D.take T).drop a).drop b).length : Int) = 0 := fun h => by rw [hl4]; omega
      generalize 0 + (a - T) + (b - (T - a)) = sk at *
      generalize ((D.take T).drop a).drop b = L at *
      have KF2 := hide (fun q => feed_ok ((unhide HF4).drewN q).fm (cutA a2 cap2 T) (p + 5 - T) (cap2 - T) (D.drop T) ((((unhide HSl).still (unhide HF4).st).drewN q).drop T) (by omega) (by omega) (fun x e => by
        obtain ⟨y, e1, e2, _⟩ := cutA_of.1 x e
        rw [e2]; exact hab y e1) no_lv)
      have hfr : feedR L false sk (D.drop T) = ([110, 101, 120, 116, 10], false, sk - (D.drop T).length) := by
        unfold feedR
        simp only [Bool.false_eq_true, if_false]
        rw [hrest]
      rw [hfr] at KF2
      have KW := hide (waiting_ok (unhide HF4).fm (by omega))
      clear hfr hrest hl4 htl hab hbl hfo hDr hDl HSl
      go_upto_region 17 with fail
      go_cut [67] from 58 to 67 (fun v wx => v = .bool false ∧ ∃ q, wx = w6.drewN q)
      case first =>
        by_cases hTT : T < p
        · have hTT' : (T : Int) < p := by omega
          have hz := hlw hTT
          rw [hz] at KW
          clear hlw hz
          go_wp2_with fail
          refine (unhide KW).mono ?_
          rintro e w7 ⟨rfl, q, rfl⟩
          go_wp2_with fail
          go_meet
          exact ⟨rfl, q, rfl⟩
        · have hTT' : ¬ (T : Int) < p := by omega
          go_wp2_with fail
          go_meet
          exact ⟨rfl, 0, rfl⟩
      case rest =>
        obtain ⟨rfl, q, rfl⟩ := hcut
        clear KW hlw
        go_wp2_with fail
        refine (unhide KF2 q).mono ?_
        rintro e w7 ⟨rfl, g7, x7⟩
        have HF5 := hide (((unhide HF4).drewN q).step x7)
        clear KF2 HF4 x7
        have KL := hide (line_ok (unhide HF5).fm (by omega))
        rw [show lineR [110, 101, 120, 116, 10] false = (([110, 101, 120, 116], true, 0), [], false) by decide +kernel] at KL
        simp only [show bs [110, 101, 120, 116] = ⟨#[110, 101, 120, 116]⟩ from rfl] at KL
        go_wp2_with fail
        refine (unhide KL).mono ?_
        rintro e w8 ⟨rfl, g8, x8⟩
        have HF6 := hide ((unhide HF5).step x8)
        clear KL HF5 x8
        have KL := hide (line_ok (unhide HF6).fm (by omega))
        rw [show lineR [] false = (([], false, 0), [], false) by decide +kernel] at KL
        go_wp2_with fail
        refine (unhide KL).mono ?_
        rintro e w9 ⟨rfl, g9, x9⟩
        have HF7 := hide ((unhide HF6).step x9)
        clear KL HF6 x9
        go_wp2_with fail
        refine (awake_ok _).mono ?_
        rintro e w10 ⟨rfl, hs⟩
        have HS := hide ((unhide HF7).st.trans hs)
        clear hs
        go_wp2_with fail
        go_ret
        refine ⟨rfl, ?_⟩
        have h2 := unhide S2
        exact hg ▸ h2.trans ((unhide HS).below h2.size (fun _ h => h.elim))
end Go.Proofs.Ytpidfndcihljmaa
