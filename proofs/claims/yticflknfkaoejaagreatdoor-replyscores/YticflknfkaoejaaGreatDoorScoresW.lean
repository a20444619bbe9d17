/- ReplyScores: scores are told so that they are read to the bit, alone and in lists. -/
import Derived.Test.YticflknfkaoejaaGreatDoorLengthsW
import Derived.Test.YticflknfkaoejaaGreatDoorRefC
namespace Go.Proofs.YticflknfkaoejaaGreatDoor
open Go.RowKit

/-- Two sayings of one call speak of one end. -/
theorem one_end {f : FuncId} {args : Array Value} {w : World} {v v' : Value} {R R' : World → Prop} (h : Calls Tryz.prog f args w fun e w' => e = .returned v ∧ R w') (h' : Calls Tryz.prog f args w fun e w' => e = .returned v' ∧ R' w') (hi : Tryz.prog.inits.idxOf? f = none) : v = v' := by
  have t1 : Calls Tryz.prog f args w fun | .returned u, w' => u = v ∧ R w' | _, _ => False := h.mono fun e w' k => by rw [k.1]; exact ⟨rfl, k.2⟩
  have t2 : Calls Tryz.prog f args w fun | .returned u, w' => u = v' ∧ R' w' | _, _ => False := h'.mono fun e w' k => by rw [k.1]; exact ⟨rfl, k.2⟩
  obtain ⟨n, x, w1, e1, r1, _⟩ := t1.done hi
  obtain ⟨m, y, w2, e2, r2, _⟩ := t2.done hi
  have a1 := runN_ended e1 m
  have a2 := runN_ended e2 n
  rw [Nat.add_comm, a1] at a2
  injection a2 with ho _
  injection ho with hv
  rw [← r1, ← r2, hv]
theorem readV_inj {o o' : Option Nat} (h : readV o = readV o') : o = o' := by
  cases o <;> cases o' <;> simp [readV] at h <;> simp [h]
/-- The numbers of a row of words. -/
theorem IsRow.words {w : World} {a : Option Addr} {len cap : Nat} {zs : List Int} (h : IsRow .u64 w a len cap zs) : ∃ f : Nat → Nat, (∀ k, f k < 18446744073709551616) ∧ len ≤ maxLen ∧ ∀ k, k < len → ∃ xb xo, a = some ⟨xb, xo, none⟩ ∧ w.cell? ⟨xb, xo + k, none⟩ = some (.int .u64 (f k : Nat)) := by
  rcases h with ⟨_, rfl, _, _⟩ | ⟨x, rfl, hl, hm, hz, hc, hw⟩
  · exact ⟨fun _ => 0, fun _ => Nat.zero_lt_succ _, Nat.zero_le _, fun k hk => by omega⟩
  · refine ⟨fun k => (zs.getD k 0).toNat % 18446744073709551616, fun k => Nat.mod_lt _ (by decide), Nat.le_trans hl hm, fun k hk => ?_⟩
    obtain ⟨xb, xo, rfl, c⟩ := flat_addr (V := fun i => .int .u64 (zs.getD i 0)) (fun i (hi : i < len) => hc i (by omega)) k hk
    refine ⟨xb, xo, rfl, ?_⟩
    have hin : zs.getD k 0 ∈ zs := by
      rw [List.getD_eq_getElem?_getD, List.getElem?_eq_getElem (by omega)]
      exact List.getElem_mem _
    obtain ⟨n, e, hn⟩ := wf_u64 _ (hw _ hin)
    rw [c]
    simp only [e, Int.toNat_natCast]
    rw [Nat.mod_eq_of_lt hn]
/-- The law's members. -/
def mbsL (b : Nat → Nat) (T : Nat → List UInt8) (k : Nat) : List Mb := (List.range k).map fun i => ⟨[109], b i, T i⟩
def scsL (T : Nat → List UInt8) (k : Nat) : List (List UInt8) := (List.range k).map fun i => scoreL (T i)
def mbsC (b : Nat → Nat) (k : Nat) : List Value := ((List.range k).map fun i => [sv [109], .float .f64 (b i)]).flatten
theorem scsL_succ (T : Nat → List UInt8) (k : Nat) : (scsL T (k + 1)).flatten = (scsL T k).flatten ++ scoreL (T k) := by
  unfold scsL; rw [List.range_succ, List.map_append, List.flatten_append]; simp
theorem mbsC_succ (b : Nat → Nat) (k : Nat) : mbsC b (k + 1) = mbsC b k ++ [sv [109], .float .f64 (b k)] := by
  unfold mbsC; rw [List.range_succ, List.map_append, List.flatten_append]; simp
theorem mbsC_len (b : Nat → Nat) (k : Nat) : (mbsC b k).length = k * 2 := by
  induction k with
  | zero => rfl
  | succ k ih => rw [mbsC_succ, List.length_append, ih]; simp; omega
theorem mbsC_get (b : Nat → Nat) (n k : Nat) (h : k < n) : (mbsC b n)[k * 2]? = some (sv [109]) ∧ (mbsC b n)[k * 2 + 1]? = some (.float .f64 (b k)) := by
  induction n with
  | zero => omega
  | succ n ih =>
    rw [mbsC_succ]
    by_cases hk : k < n
    · rw [List.getElem?_append_left (by rw [mbsC_len]; omega), List.getElem?_append_left (by rw [mbsC_len]; omega)]
      exact ih hk
    · obtain rfl : k = n := by omega
      rw [List.getElem?_append_right (by rw [mbsC_len]; omega), List.getElem?_append_right (by rw [mbsC_len]; omega), mbsC_len]
      rw [show k * 2 - k * 2 = 0 by omega, show k * 2 + 1 - k * 2 = 1 by omega]
      exact ⟨rfl, rfl⟩
theorem infoM : (Tryz.prog.info? 47).map (fun i => (i.zero, i.size, i.bytes)) = some (some (.agg #[.string ⟨#[]⟩, .float .f64 0]), 2, 24) := by kernel_rfl
def MRow (w : World) (lo : Nat) (v : Value) (b : Nat → Nat) (k : Nat) : Prop := w.ownsRow lo 47 2 v k (mbsC b k)
theorem MRow.cells {w : World} {lo : Nat} {p : Option Addr} {c n : Nat} {b : Nat → Nat} (h : MRow w lo (.slice p n c) b n) (i : Nat) (hi : i < n) : ∃ g, p = some ⟨g, 0, none⟩ ∧ w.cell? ⟨g, i * 2, none⟩ = some (sv [109]) ∧ w.cell? ⟨g, i * 2 + 1, none⟩ = some (.float .f64 (b i)) ∧ g < w.heap.size := by
  rcases h.2 with ⟨hv, hn⟩ | ⟨g, cap, cur, hv, hb, hg, hc, _, hs, hcur⟩
  · omega
  · cases hv
    have h1 : w.ownsRow lo 47 2 (.slice (some ⟨g, 0, none⟩) n c) n (mbsC b n) := h
    obtain ⟨e1, e2⟩ := mbsC_get b n i hi
    refine ⟨g, rfl, ?_, ?_, (Array.getElem?_eq_some_iff.1 hg).1⟩
    · rw [h1.cellAt (i * 2) (by omega), e1]
    · rw [h1.cellAt (i * 2 + 1) (by omega), e2]
theorem MRow.mbs {w : World} {lo : Nat} {p : Option Addr} {c n : Nat} {b : Nat → Nat} {T : Nat → List UInt8} (h : MRow w lo (.slice p n c) b n) : Mbs w p (mbsL b T n) := by
  intro i m hi
  have hin : i < n := by
    have := (List.getElem?_eq_some_iff.1 hi).1
    simpa [mbsL] using this
  obtain rfl : m = ⟨[109], b i, T i⟩ := by
    unfold mbsL at hi
    rw [List.getElem?_map, List.getElem?_range hin] at hi
    simp only [Option.map_some, Option.some.injEq] at hi
    exact hi.symm
  obtain ⟨g, e, c1, c2, hg⟩ := h.cells i hin
  exact ⟨g, 0, e, by rw [Nat.zero_add]; exact c1, by rw [Nat.zero_add]; exact c2, hg⟩
theorem scsL_len (T : Nat → List UInt8) (k : Nat) (h : ∀ i, (T i).length ≤ 40) : (scsL T k).flatten.length ≤ k * 60 := by
  induction k with
  | zero => simp [scsL]
  | succ k ih =>
    rw [scsL_succ, List.length_append]
    have := h k
    simp only [scoreL, List.length_append, List.length_cons, List.length_nil]
    omega
set_option maxRecDepth 100000 in
theorem refSame_ok (a b : Nat) (ha : a < 18446744073709551616) (hb : b < 18446744073709551616) (h : a = b ∨ nanB a = true ∧ nanB b = true) (w : World) : Calls Tryz.prog 20 #[.float .f64 a, .float .f64 b] w fun e w' => e = .returned (.bool true) ∧ w' = w := by
  have hc : cmp3 (codeN a) (codeN b) = 0 := by
    have : codeN a = codeN b := by
      rcases h with rfl | ⟨h1, h2⟩
      · rfl
      · unfold codeN; rw [if_pos h1, if_pos h2]
    rw [this]; unfold cmp3; rw [if_neg (by omega), if_neg (by omega)]
  have hC := fun w => refCmp_ok a b ha hb w
  rw [hc] at hC
  clear hc h
  go_enter Tryz.func20, Tryz.ntmps20
  go_wp2_with (go_at_call 37; refine (hC _).mono ?_; rintro e w' ⟨rfl, rfl⟩)
  go_ret
  exact ⟨rfl, rfl⟩
/-- What a number's text is: a score; read back, by num and by the document's own, it is the number. -/
theorem told_all {sc : List UInt8 → Bool} (hs : Scs sc) {W : World} (hL : Lk W) {a y : Nat} {T : List UInt8} (h : ToldZ a T y) : IsSc sc T ∧ (∀ w, Calls Tryz.prog 19 #[.string (bs T)] w fun e w' => e = .returned (refV (some y)) ∧ w' = w) := by
  have hsz : Sm T := by have := h.small; simp only [Sm]; omega
  obtain ⟨o, ho, hp⟩ := hs.ok T hsz
  have e1 := readV_inj (one_end (hp W hL) (h.parse W hL) (by kernel_rfl))
  obtain ⟨o2, _, p2, r2⟩ := reads (bs T) (by rw [bs_size]; simp only [Sm] at hsz; omega)
  have e2 := readV_inj (one_end (p2 W hL) (h.parse W hL) (by kernel_rfl))
  subst e2
  exact ⟨⟨by rw [← ho, e1]; rfl, h.chr⟩, r2⟩

/-- Where the j-th member's line begins. -/
def posN (hd : List UInt8) (T : Nat → List UInt8) (j : Nat) : Nat := (hd ++ ((List.range j).map fun i => lineL [[109], T i]).flatten).length
theorem posN_succ (hd : List UInt8) (T : Nat → List UInt8) (j : Nat) : posN hd T (j + 1) = posN hd T j + (lineL [[109], T j]).length := by
  unfold posN
  rw [List.range_succ, List.map_append, List.flatten_append]
  simp only [List.length_append, List.map_cons, List.map_nil, List.flatten_cons, List.flatten_nil, List.append_nil]
  omega
theorem posN_le (hd : List UInt8) (T : Nat → List UInt8) (j k : Nat) (h : j ≤ k) : posN hd T j ≤ posN hd T k := by
  induction k with
  | zero => rw [Nat.le_zero.1 h]; exact Nat.le_refl _
  | succ k ih =>
    rcases Nat.lt_or_ge k j with h1 | h1
    · rw [show j = k + 1 by omega]; exact Nat.le_refl _
    · have := ih h1
      have := posN_succ hd T k
      omega
theorem posN_cut (hd : List UInt8) (T : Nat → List UInt8) (j k : Nat) (h : j < k) : ((hd ++ ((List.range k).map fun i => lineL [[109], T i]).flatten).take (posN hd T j + (lineL [[109], T j]).length)).drop (posN hd T j) = lineL [[109], T j] := by
  have key : ∀ m, ∃ r, hd ++ ((List.range (j + 1 + m)).map fun i => lineL [[109], T i]).flatten = (hd ++ ((List.range j).map fun i => lineL [[109], T i]).flatten) ++ lineL [[109], T j] ++ r := by
    intro m
    induction m with
    | zero =>
      refine ⟨[], ?_⟩
      rw [Nat.add_zero, List.range_succ, List.map_append, List.flatten_append]
      simp
    | succ m ih =>
      obtain ⟨r, e⟩ := ih
      refine ⟨r ++ lineL [[109], T (j + 1 + m)], ?_⟩
      rw [show j + 1 + (m + 1) = (j + 1 + m) + 1 by omega, List.range_succ, List.map_append, List.flatten_append, ← List.append_assoc, e]
      simp
  obtain ⟨r, e⟩ := key (k - (j + 1))
  rw [show j + 1 + (k - (j + 1)) = k by omega] at e
  rw [e]
  unfold posN
  rw [List.take_append_of_le_length (by simp only [List.length_append]; omega), List.take_of_length_le (by simp only [List.length_append]; omega)]
  simp
set_option maxRecDepth 100000 in
set_option maxHeartbeats 8000000 in
theorem scores_law (a : Option Addr) (len cap : Nat) (b : Nat → Nat) (hb : ∀ k, b k < 18446744073709551616) (hm : len ≤ maxLen) {W : World} (hP : ∀ k, k < len → ∃ xb xo, a = some ⟨xb, xo, none⟩ ∧ W.cell? ⟨xb, xo + k, none⟩ = some (.int .u64 (b k : Nat))) (hK : Kn W W) :
    Calls Tryz.prog 5 #[.slice a len cap] W fun e w' => e = .returned (.bool true) ∧ Below W.heap.size W w' := by
  obtain ⟨sc, hsc⟩ := scs
  obtain ⟨T, y, hT⟩ : ∃ (T : Nat → List UInt8) (y : Nat → Nat), ∀ k, ToldZ (b k) (T k) (y k) := by
    classical
    exact ⟨fun k => Classical.choose (tellsZ (b k) (hb k)), fun k => Classical.choose (Classical.choose_spec (tellsZ (b k) (hb k))), fun k => Classical.choose_spec (Classical.choose_spec (tellsZ (b k) (hb k)))⟩
  have hA : ∀ k, IsSc sc (T k) ∧ (∀ w, Calls Tryz.prog 19 #[.string (bs (T k))] w fun e w' => e = .returned (refV (some (y k))) ∧ w' = w) := fun k => told_all hsc hK.look (hT k)
  have HK := hide hK
  have HT := hide (And.intro hT (And.intro hA hb))
  have hlm : len ≤ 9223372036854775807 := by unfold maxLen at hm; omega
  have HP := hide hP
  have HA := hide (fun w2 (f : Still W w2) => awake_ok ((unhide HK).still f))
  have hf := from_run
  clear hK hP hm hT hA hb
  go_enter Tryz.func5, Tryz.ntmps5
  go_wp2_with fail
  go_loopw [3, 4, 5] (fun v s i wr => ∃ (k : Nat) (p : Option Addr) (pc : Nat), i = iv k ∧ s = sv (scsL T k).flatten ∧ v = .slice p k pc ∧ Hid (k ≤ len ∧ k ≤ 10 ∧ MRow wr W.heap.size (.slice p k pc) b k ∧ Still W wr)) (fun _ _ i _ => 10 - (RowKit.intOf i).toNat)
  case atStart => exact ⟨0, none, 0, rfl, rfl, rfl, hide ⟨Nat.zero_le _, by decide, World.ownsRow_nil _ _ _ _, Fr.refl _ _⟩⟩
  case round =>
    obtain ⟨k, p, pc, rfl, rfl, rfl, HJ⟩ := hrel
    by_cases hlt : k < len ∧ k < 10
    · obtain ⟨h1, h2⟩ := hlt
      have h1' : ((k : Int) < len) = True := by simp; omega
      have h2' : ((k : Int) < 10) = True := by simp; omega
      obtain ⟨xb, xo, rfl, xc⟩ := (unhide HP) k h1
      have c0 : wr.cell? ⟨xb, xo + k, none⟩ = some (.int .u64 (b k : Nat)) := (unhide HJ).2.2.2.cell' xc fun y => y
      have hS := rscore_ok ((unhide HT).1 k).text (by have := ((unhide HT).1 k).small; omega) ((unhide HK).still (unhide HJ).2.2.2)
      have hvl := scsL_len T k fun i => ((unhide HT).1 i).small
      have hv1 : (scoreL (T k)).length ≤ 60 := by have := ((unhide HT).1 k).small; simp [scoreL]; omega
      have hsucc := scsL_succ T k
      have hmc := mbsC_succ b k
      obtain ⟨bk, hbk⟩ : ∃ bk, b k = bk := ⟨_, rfl⟩
      rw [hbk] at c0 hS hmc
      obtain ⟨vz, hvz⟩ : ∃ vz, scoreL (T k) = vz := ⟨_, rfl⟩
      obtain ⟨vk, hvk⟩ : ∃ vk, (scsL T k).flatten = vk := ⟨_, rfl⟩
      rw [hvz] at hS hv1 hsucc
      rw [hvk] at hvl hsucc
      have hadd := fun w => bs_add vk vz (by omega) w
      rw [← hsucc] at hadd
      obtain ⟨vn, hvn⟩ : ∃ vn, (scsL T (k + 1)).flatten = vn := ⟨_, rfl⟩
      rw [hvn] at hadd
      rw [hvk]
      have HS := hide hS
      have HX := hide (And.intro h1 (And.intro h2 (And.intro hvn hmc)))
      clear hS hvl hv1 hsucc hvz hvk hvn h1 xc hmc hbk
      go_wp2_with fail
      refine (unhide HS).mono ?_
      rintro e w2 ⟨rfl, s2⟩
      have S2 := hide ((unhide HJ).2.2.2.trans s2)
      have HR : MRow w2 W.heap.size (.slice p k pc) b k := owns_same (unhide HJ).2.2.1 fun j hj => s2.block j ((unhide HJ).2.2.1.lt j hj).2 (fun y => y)
      obtain ⟨pa, pq, u2, hap, o2, f2, -⟩ := row_more infoM rfl (by decide) (by decide) Tryz.underlying42 w2 W.heap.size (.slice p k pc) k _ HR [sv [109], .float .f64 bk] rfl (by simp [Value.oneCell']) (by omega) (unhide S2).size
      rw [← (unhide HX).2.2.2] at o2
      have iu : Still W u2 := (unhide S2).trans' f2 fun g hg => .inr (HR.lt g hg).1
      have HAP := hide hap
      have HE := hide (And.intro (show MRow u2 W.heap.size (.slice pa (k + 1) pq) b (k + 1) from o2) iu)
      clear hap o2 f2 iu HR s2 HS c0
      go_wp2_with (at_builtin; refine wpList_append_run rfl (.tmp 36) (.tmp 39) 42 rfl _ _ rfl rfl (.slice pa (k + 1) pq) u2 (unhide HAP) ?_)
      exact ⟨⟨k + 1, pa, pq, by go_num, by rw [(unhide HX).2.2.1], rfl, hide ⟨by have := (unhide HX).1; omega, by omega, (unhide HE).1, (unhide HE).2⟩⟩, by simp [RowKit.intOf]; omega⟩
    · have hk10 : k ≤ 10 := (unhide HJ).2.1
      have hm := fun i => ((unhide HT).1 i).small
      have hms : Mbs wr p (mbsL b T k) := (unhide HJ).2.2.1.mbs
      have hml : (mbsL b T k).length = k := by simp [mbsL]
      have hmem : ∀ m ∈ mbsL b T k, ∃ i, i < k ∧ m = ⟨[109], b i, T i⟩ := fun m h => by
        unfold mbsL at h
        obtain ⟨i, hi, e⟩ := List.mem_map.1 h
        exact ⟨i, List.mem_range.1 hi, e.symm⟩
      have hR := rscored_ok ((unhide HK).still (unhide HJ).2.2.2) p pc (mbsL b T k) hms (by omega) (fun m h => by
        obtain ⟨i, hi, rfl⟩ := hmem m h
        exact ⟨by simp, by have := hm i; show (T i).length ≤ 1000; omega, ((unhide HT).1 i).text⟩)
      rw [hml] at hR
      have hvl := scsL_len T k hm
      have htl : scoredL (mbsL b T k) = [83,67,79,82,69,68] ++ 32 :: (Lib.decDigits k ++ [10]) ++ ((List.range k).map fun i => lineL [[109], T i]).flatten := by
        unfold scoredL mbsL
        rw [List.length_map, List.length_range, line2_len, List.map_map]
        rfl
      have hdk := dec_small k (by omega)
      have hll : ((List.range k).map fun i => lineL [[109], T i]).flatten.length ≤ 1000 := by
        have h1 := flat_len (fun i => lineL [[109], T i]) 60 (List.range k) fun i _ => by
          have := hm i
          rw [line2_len]; simp; omega
        rw [List.length_range] at h1
        omega
      have hpa : ansL sc ((scsL T k).flatten ++ scoredL (mbsL b T k)) = some (scsL T k ++ [scoredL (mbsL b T k)]) := by
        have h1 := parts_flat (sc := sc) (scsL T k ++ [scoredL (mbsL b T k)]) (fun q hq => by
          rcases List.mem_append.1 hq with h | h
          · unfold scsL at h
            obtain ⟨i, hi, rfl⟩ := List.mem_map.1 h
            exact ans_score ((unhide HT).2.1 i).1
          · simp only [List.mem_cons, List.not_mem_nil, or_false] at h
            subst h
            exact ans_scored _ (by omega) fun m h => by
              obtain ⟨i, hi, rfl⟩ := hmem m h
              exact ⟨(by decide : isN [109] = true), ((unhide HT).2.1 i).1⟩)
        simpa using h1
      have hRl : (scsL T k ++ [scoredL (mbsL b T k)]).length = k + 1 := by simp [scsL]
      have hR0 : ∀ i, i < k → (scsL T k ++ [scoredL (mbsL b T k)])[i]? = some (scoreL (T i)) := fun i hi => by
        rw [List.getElem?_append_left (by simp [scsL]; exact hi)]
        simp [scsL, hi]
      have hR1 : (scsL T k ++ [scoredL (mbsL b T k)])[k]? = some (scoredL (mbsL b T k)) := by
        rw [List.getElem?_append_right (by simp [scsL])]
        simp [scsL]
      have hd10 := fun w => digs_bs k (by omega) w
      have hcv := fun w => conv_u64 k (by omega) w
      obtain ⟨d, hd⟩ : ∃ d, Lib.decDigits k = d := ⟨_, rfl⟩
      rw [hd] at htl hdk hd10
      obtain ⟨vk, hvk⟩ : ∃ vk, (scsL T k).flatten = vk := ⟨_, rfl⟩
      obtain ⟨R, hRd⟩ : ∃ R, scsL T k ++ [scoredL (mbsL b T k)] = R := ⟨_, rfl⟩
      rw [hRd] at hpa hRl hR0 hR1
      rw [hvk] at hvl hpa ⊢
      obtain ⟨tt, htt⟩ : ∃ t, scoredL (mbsL b T k) = t := ⟨_, rfl⟩
      rw [htt] at hR hpa hR1 htl
      have htlen : tt.length ≤ 2000 := by rw [htl]; simp only [List.length_append, List.length_cons, List.length_nil]; omega
      have d1 := fun w => bs_add vk tt (by omega) w
      have hsl : (vk ++ tt).length ≤ 1000000 := by simp; omega
      obtain ⟨s1, hs1⟩ : ∃ s1, vk ++ tt = s1 := ⟨_, rfl⟩
      rw [hs1] at d1 hpa hsl
      have hPa := fun (w9 : World) (k9 : Kn W w9) => parse_ok hsc s1 hsl k9
      rw [hpa] at hPa
      have a1 : ∀ w, (Op.stringOp .add ⟨#[83,67,79,82,69,68,32]⟩ (bs d)).run Tryz.prog w = .ok (.string (bs ([83,67,79,82,69,68,32] ++ d))) w := fun w => bs_add [83,67,79,82,69,68,32] d (by simp; omega) w
      have a2 : ∀ w, (Op.stringOp .add (bs ([83,67,79,82,69,68,32] ++ d)) ⟨#[10]⟩).run Tryz.prog w = .ok (.string (bs ([83,67,79,82,69,68,32] ++ d ++ [10]))) w := fun w => bs_add _ [10] (by simp; omega) w
      have htl2 : tt = ([83,67,79,82,69,68,32] ++ d ++ [10]) ++ ((List.range k).map fun i => lineL [[109], T i]).flatten := by rw [htl]; simp
      obtain ⟨t1, ht1⟩ : ∃ t, ([83,67,79,82,69,68,32] ++ d : List UInt8) = t := ⟨_, rfl⟩
      rw [ht1] at a1 a2 htl2
      obtain ⟨hd1, hhd⟩ : ∃ t, t1 ++ [10] = t := ⟨_, rfl⟩
      rw [hhd] at a2 htl2
      have hhl := bs_size hd1
      have hhl2 : hd1.length ≤ 40 := by rw [← hhd, ← ht1]; simp; omega
      have HPa := hide hPa
      have HR := hide hR
      have hRt := bs_size tt
      have HZ := hide (And.intro hRl (And.intro hR0 (And.intro hR1 (And.intro htl2 (And.intro htlen hhl2)))))
      have HL := hide hll
      have hk1 : (k : Int) < (k : Int) + 1 := by omega
      have qt : ((bs tt).toList == (bs tt).toList) = true := by simp
      obtain ⟨w0, rfl⟩ : ∃ w0, w0 = wr := ⟨_, rfl⟩
      clear hm hms hml hmem hR hvl htl hdk hll hpa hRl hR0 hR1 hd hvk hRd htt htlen hsl hs1 hPa htl2 ht1 hhd hhl2
      have hend : ((k : Int) < len) = False ∨ ((k : Int) < len) = True ∧ ((k : Int) < 10) = False := by
        by_cases h1 : k < len
        · refine .inr ⟨by simp; omega, ?_⟩
          have : ¬ k < 10 := fun h2 => hlt ⟨h1, h2⟩
          simp; omega
        · left; simp; omega
      clear hlt
      rcases hend with h1' | ⟨h1', h2'⟩
      all_goals
        go_wp2_with fail
        refine (unhide HR).mono ?_
        rintro e w2 ⟨rfl, s2'⟩
        have S2 := hide ((unhide HJ).2.2.2.trans s2')
        have S2r := hide s2'
        clear s2'
        go_wp2_with fail
        refine (unhide HPa _ ((unhide HK).still (unhide S2))).mono ?_
        rintro e w4 ⟨⟨v, rfl, t4⟩, s4⟩
        have S4 := hide ((unhide S2).trans s4)
        have S4r := hide ((unhide S2r).trans s4)
        obtain ⟨p4, c4, rfl, hc⟩ := t4.rd
        obtain ⟨g4, rfl, y1⟩ := hc k _ (unhide HZ).2.2.1
        rw [(unhide HZ).1]
        have HC := hide hc
        clear s4 t4 hc d1
        go_wp2_with (first | (go_at_call 14; refine (hd10 _).mono ?_; rintro e w9 ⟨rfl, rfl⟩))
        go_loopw [11, 12] (fun at_ i wr => ∃ j : Nat, i = iv j ∧ at_ = iv (posN hd1 T j) ∧ Hid (j ≤ k ∧ Still w9 wr)) (fun _ i _ => k - (RowKit.intOf i).toNat)
        case atStart => exact ⟨0, rfl, by simp [posN], hide ⟨Nat.zero_le _, Fr.refl _ _⟩⟩
        case round =>
          obtain ⟨j, rfl, rfl, HI⟩ := hrel
          by_cases hlt : j < k
          · have hlt2 : ((j : Int) < k) = True := by simp; omega
            have hj10 : j < 10 := by omega
            have hjk1 : (j : Int) < (k : Int) + 1 := by omega
            obtain ⟨g5, hg5, y5⟩ := unhide HC j _ ((unhide HZ).2.1 j hlt)
            cases hg5
            have c5 : wr.cell? ⟨g4, j, none⟩ = some (sv (scoreL (T j))) := (unhide HI).2.cell' y5 fun y => y
            obtain ⟨gz, rfl, -, z1, -⟩ := (unhide HJ).2.2.1.cells j hlt
            have c6 : wr.cell? ⟨gz, j * 2 + 1, none⟩ = some (.float .f64 (b j)) := ((unhide S4r).trans (unhide HI).2).cell' z1 fun y => y
            obtain ⟨hsm, hne⟩ := (show (T j).length ≤ 40 ∧ 1 ≤ (T j).length from ⟨((unhide HT).1 j).small, ((unhide HT).1 j).ne⟩)
            have hrp := ((unhide HT).2.1 j).2
            have hsame := fun w => refSame_ok (y j) (b j) ((unhide HT).1 j).lt ((unhide HT).2.2 j) (by rcases ((unhide HT).1 j).same with e | e; exact .inl e.symm; exact .inr ⟨e.2, e.1⟩) w
            have hsame2 := fun w => refSame_ok (b j) (y j) ((unhide HT).2.2 j) ((unhide HT).1 j).lt ((unhide HT).1 j).same w
            have hpos := posN_succ hd1 T j
            have hposk := posN_le hd1 T (j + 1) k (by omega)
            have hcutt := posN_cut hd1 T j k hlt
            rw [← (unhide HZ).2.2.2.1] at hcutt
            have hpk : posN hd1 T k = tt.length := by rw [(unhide HZ).2.2.2.1]; rfl
            rw [hpk] at hposk
            have htl := (unhide HZ).2.2.2.2.1
            obtain ⟨bj, hbj⟩ : ∃ x, b j = x := ⟨_, rfl⟩
            obtain ⟨yj, hyj⟩ : ∃ x, y j = x := ⟨_, rfl⟩
            obtain ⟨Tj, hTj⟩ : ∃ x, T j = x := ⟨_, rfl⟩
            rw [hbj] at c6 hsame hsame2
            rw [hyj] at hrp hsame hsame2
            rw [hTj] at c5 hsm hne hrp hpos hcutt
            have hsl : (scoreL Tj).length = Tj.length + 7 := by simp [scoreL]
            have hs6 : (scoreL Tj).take 6 = [83,67,79,82,69,32] := rfl
            have hsm2 : ((scoreL Tj).take (Tj.length + 6)).drop 6 = Tj := by
              have e1 : scoreL Tj = [83,67,79,82,69,32] ++ (Tj ++ [10]) := by simp [scoreL]
              rw [e1, List.take_append, List.take_of_length_le (by simp), show Tj.length + 6 - ([83,67,79,82,69,32] : List UInt8).length = Tj.length by simp]
              simp
            obtain ⟨sz, hsz⟩ : ∃ x, scoreL Tj = x := ⟨_, rfl⟩
            rw [hsz] at c5 hsl hs6 hsm2
            have f6 : ∀ w, (Instr.slice 9 (.string (bs sz)) none (some (.int .i64 6)) none).run Tryz.prog w = .ok (.string (bs [83,67,79,82,69,32])) w := fun w => by
              rw [← hs6]; exact bs_to sz 6 .i64 (by omega) w
            have hw1 : wrap64 ((sz.length : Int) - 1) = ((Tj.length + 6 : Nat) : Int) := by rw [hsl]; unfold wrap64; omega
            obtain ⟨L6, hL6⟩ : ∃ x, Tj.length + 6 = x := ⟨_, rfl⟩
            rw [hL6] at hw1 hsm2
            have fm : ∀ w, (Instr.slice 9 (.string (bs sz)) (some (.int .i64 6)) (some (.int .i64 (L6 : Int))) none).run Tryz.prog w = .ok (.string (bs Tj)) w := fun w => by
              have := bs_mid sz 6 L6 .i64 .i64 (by omega) (by omega) w
              rw [hsm2] at this; exact this
            have hs8 : ((sz.length : Int) < 8) = False := by simp; omega
            have hssz := bs_size sz
            have a1 : ∀ w, (Op.stringOp .add ⟨#[109, 32]⟩ (bs Tj)).run Tryz.prog w = .ok (.string (bs ([109, 32] ++ Tj))) w := fun w => bs_add [109, 32] Tj (by simp; omega) w
            have a2 : ∀ w, (Op.stringOp .add (bs ([109, 32] ++ Tj)) ⟨#[10]⟩).run Tryz.prog w = .ok (.string (bs ([109, 32] ++ Tj ++ [10]))) w := fun w => bs_add _ [10] (by simp; omega) w
            have hln : ([109, 32] ++ Tj ++ [10] : List UInt8) = lineL [[109], Tj] := by rw [line2_len]; simp
            have hlnl : (lineL [[109], Tj]).length ≤ 50 := by rw [← hln]; simp; omega
            rw [hln] at a2
            obtain ⟨t1, ht1⟩ : ∃ t, ([109, 32] ++ Tj : List UInt8) = t := ⟨_, rfl⟩
            rw [ht1] at a1 a2
            obtain ⟨ln, hln2⟩ : ∃ t, lineL [[109], Tj] = t := ⟨_, rfl⟩
            rw [hln2] at a2 hpos hcutt hlnl
            obtain ⟨P2, hP2⟩ : ∃ x, posN hd1 T (j + 1) = x := ⟨_, rfl⟩
            rw [hP2] at hpos hposk
            obtain ⟨P, hP1⟩ : ∃ x, posN hd1 T j = x := ⟨_, rfl⟩
            rw [hP1] at hpos hcutt ⊢
            have hlsz := bs_size ln
            have hw2 : wrap64 ((P : Int) + ln.length) = (P2 : Int) := by rw [hpos]; unfold wrap64; omega
            have hgt : ((tt.length : Int) < (P2 : Int)) = False := by simp; omega
            have ft : ∀ w, (Instr.slice 9 (.string (bs tt)) (some (.int .i64 (P : Int))) (some (.int .i64 (P2 : Int))) none).run Tryz.prog w = .ok (.string (bs ln)) w := fun w => by
              have := bs_mid tt P P2 .i64 .i64 (by omega) (by omega) w
              rw [hpos, hcutt] at this
              rw [hpos]; exact this
            have ql : ((bs ln).toList == (bs ln).toList) = true := by simp
            have q6 : ((bs [83,67,79,82,69,32]).toList == [83,67,79,82,69,32]) = true := by rw [bs_list]; rfl
            have hkm : (j : Int) < (k : Int) := by omega
            have HX2 := hide (And.intro hlt hP2)
            have hrv : refV (some yj) = .tuple #[.float .f64 yj, .bool true] := rfl
            rw [hrv] at hrp
            clear hlt y5 z1 hsm hne hpos hposk hcutt hpk htl hbj hyj hTj hsl hs6 hsm2 hsz hL6 hln hlnl ht1 hln2 hP2 hP1
            go_wp2_with fail
            go_quiet (first | fail)
            go_wp2_with (first | (go_at_call 19; refine (hrp _).mono ?_; rintro e wx ⟨rfl, hx⟩; replace hx := hx.symm; subst hx) | (go_at_call 20; first | (refine (hsame _).mono ?_; rintro e wx ⟨rfl, hx⟩; replace hx := hx.symm; subst hx) | (refine (hsame2 _).mono ?_; rintro e wx ⟨rfl, hx⟩; replace hx := hx.symm; subst hx)))
            exact ⟨⟨j + 1, by go_num, by rw [hw2, (unhide HX2).2], hide ⟨by have := (unhide HX2).1; omega, (unhide HI).2.trans ((Fr.refl _ _).drewN _)⟩⟩, by have := (unhide HX2).1; simp [RowKit.intOf]; omega⟩
          · have hlt2 : ((j : Int) < k) = False := by simp; omega
            obtain rfl : j = k := by have := (unhide HI).1; omega
            have hpk : posN hd1 T j = tt.length := by rw [(unhide HZ).2.2.2.1]; rfl
            rw [hpk]
            have HA2 := hide (unhide HA wr ((unhide S4).trans (unhide HI).2))
            have heq : ((tt.length : Int) == tt.length) = true := by simp
            clear hlt hpk
            go_wp2_with fail
            refine (unhide HA2).mono ?_
            rintro e w5 ⟨rfl, s5⟩
            have S5 := hide (((unhide S4).trans (unhide HI).2).trans s5)
            clear s5 HA2
            go_wp2
            go_ret
            exact ⟨rfl, (unhide S5).below (Nat.le_refl _) fun _ x => x.elim⟩
theorem scoresL_ok (a : Option Addr) (len cap : Nat) (zs : List Int) {W : World} (h : IsRow .u64 W a len cap zs) (hK : Kn W W) :
    Calls Tryz.prog 5 #[.slice a len cap] W fun e w' => e = .returned (.bool true) ∧ Below W.heap.size W w' := by
  obtain ⟨f, h1, h2, h3⟩ := h.words
  exact scores_law a len cap f h1 h2 h3 hK
end Go.Proofs.YticflknfkaoejaaGreatDoor
