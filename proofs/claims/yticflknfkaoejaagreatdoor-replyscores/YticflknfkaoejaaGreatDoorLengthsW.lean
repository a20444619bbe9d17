/- ReplyLengths: a value's length is told as it is, and its bytes stand as they are. -/
import Derived.Test.YticflknfkaoejaaGreatDoorRq
import Derived.Test.YticflknfkaoejaaGreatDoorIn
import Derived.Deep.RegionHeld3
namespace Go.Proofs.YticflknfkaoejaaGreatDoor
open Go.RowKit

/-- An append, its run told, in a region that draws. -/
theorem step_append_run {P : Program} {ops : Array Oper} {o : Oper} {a : Act} {w : World} {K : Act → World → Prop} {Q : Exit → Act → World → Prop} {E : Prop} (hgd : o.guard = none) (s x : Operand) (t : TypeId)
    (ho : o.op = .call { callee := .builtin .append, args := #[s, x], argTypes := #[t, t] }) (vs vx : Value) (hs : a.eval s = vs) (hx : a.eval x = vx) (v' : Value) (w' : World) (hr : (Builtin.append_ #[t, t] o.type #[vs, vx]).run P w = .ok v' w')
    (h : K (a.put o.dst v') w') : if Region.wanted o (yielded ops a.tmps) = true then Oper.wp P o a w K Q else E := by
  rw [if_pos (by simp [Region.wanted, hgd])]
  unfold Oper.wp execOp
  simp only [ho, resolve, invoke, builtin, Sem.run_bind, Sem.run_pure, Result.andThen_ok, List.map_toArray, List.map_cons, List.map_nil, hs, hx, hr]
  exact h
theorem digs_bs (u : Nat) (hu : u < 1000000000000000) (w : World) : Calls Tryz.prog 14 #[.int .u64 u] w fun e w' => e = .returned (.string (bs (Lib.decDigits u))) ∧ w' = w := digits_ok u hu w
theorem conv_u64 (k : Nat) (hk : k < 9223372036854775808) (w : World) : (convert 3 36 (iv (k : Int))).run Tryz.prog w = .ok (.int .u64 (k : Int)) w := by
  have hik : Tryz.prog.intKind 36 = .u64 := by kernel_rfl
  have h := run_convert_int (P := Tryz.prog) w 3 36 .i64 (k : Int) (by kernel_rfl) (by rw [hik]; exact Tryz.underlying36)
  rw [hik] at h
  have : IntKind.u64.wrap (k : Int) = (k : Int) := by simp [IntKind.wrap, IntKind.signed, IntKind.bits]; omega
  rw [this] at h
  exact h
theorem infoQ : (Tryz.prog.info? 38).map (fun i => (i.zero, i.size, i.bytes)) = some (some (.agg #[.string ⟨#[]⟩, .slice none 0 0]), 2, 40) := by kernel_rfl
/-- The keys of the law's pairs. -/
def keyK (i : Nat) : List UInt8 := 107 :: Lib.decDigits i
/-- The first k values, told. -/
def valsL (Z : Nat → List UInt8) (k : Nat) : List (List UInt8) := (List.range k).map fun i => valueL [86, 65, 76, 85, 69] (Z i)
/-- The first k pairs. -/
def prsL (Z : Nat → List UInt8) (k : Nat) : List (List UInt8 × List UInt8) := (List.range k).map fun i => (keyK i, Z i)
/-- Their cells. -/
def prsC (A : Nat → Option Addr) (L C : Nat → Nat) (k : Nat) : List Value := ((List.range k).map fun i => [sv (keyK i), .slice (A i) (L i) (C i)]).flatten
theorem valsL_succ (Z : Nat → List UInt8) (k : Nat) : (valsL Z (k + 1)).flatten = (valsL Z k).flatten ++ valueL [86, 65, 76, 85, 69] (Z k) := by
  unfold valsL; rw [List.range_succ, List.map_append, List.flatten_append]; simp
theorem prsC_succ (A : Nat → Option Addr) (L C : Nat → Nat) (k : Nat) : prsC A L C (k + 1) = prsC A L C k ++ [sv (keyK k), .slice (A k) (L k) (C k)] := by
  unfold prsC; rw [List.range_succ, List.map_append, List.flatten_append]; simp
theorem prsC_len (A : Nat → Option Addr) (L C : Nat → Nat) (k : Nat) : (prsC A L C k).length = k * 2 := by
  induction k with
  | zero => rfl
  | succ k ih => rw [prsC_succ, List.length_append, ih]; simp; omega
theorem prsC_get (A : Nat → Option Addr) (L C : Nat → Nat) (n k : Nat) (h : k < n) : (prsC A L C n)[k * 2]? = some (sv (keyK k)) ∧ (prsC A L C n)[k * 2 + 1]? = some (.slice (A k) (L k) (C k)) := by
  induction n with
  | zero => omega
  | succ n ih =>
    rw [prsC_succ]
    by_cases hk : k < n
    · rw [List.getElem?_append_left (by rw [prsC_len]; omega), List.getElem?_append_left (by rw [prsC_len]; omega)]
      exact ih hk
    · obtain rfl : k = n := by omega
      rw [List.getElem?_append_right (by rw [prsC_len]; omega), List.getElem?_append_right (by rw [prsC_len]; omega), prsC_len]
      rw [show k * 2 - k * 2 = 0 by omega, show k * 2 + 1 - k * 2 = 1 by omega]
      exact ⟨rfl, rfl⟩
theorem isN_key (k : Nat) (h : k ≤ 100) : isN (keyK k) = true := by
  have h1 := (dec_props k).1
  have h2 := dec_small k (by omega)
  have h3 := (dec_props k).2.2.1
  unfold isN keyK
  simp only [Bool.and_eq_true, List.all_eq_true, decide_eq_true_eq, List.length_cons]
  refine ⟨by omega, fun c hc => ?_⟩
  rcases List.mem_cons.1 hc with rfl | hc
  · decide
  · have := h1 c hc; omega
theorem valueV_len (x : List UInt8) (h : x.length ≤ 500) : (valueL [86, 65, 76, 85, 69] x).length ≤ 600 := by
  have := valueL_len [86, 65, 76, 85, 69] x (by omega)
  simp at this; omega
theorem valsL_len (Z : Nat → List UInt8) (k : Nat) (h : ∀ i, i < k → (Z i).length ≤ 500) : (valsL Z k).flatten.length ≤ k * 600 := by
  induction k with
  | zero => simp [valsL]
  | succ k ih =>
    rw [valsL_succ, List.length_append]
    have := ih fun i hi => h i (by omega)
    have := valueV_len (Z k) (h k (by omega))
    omega
/-- The row of pairs that the law makes. -/
def PRow (w : World) (lo : Nat) (v : Value) (A : Nat → Option Addr) (L C : Nat → Nat) (k : Nat) : Prop := w.ownsRow lo 38 2 v k (prsC A L C k)
theorem PRow.prs {w : World} {lo : Nat} {p : Option Addr} {c n : Nat} {A : Nat → Option Addr} {L C : Nat → Nat} {Z : Nat → List UInt8} (h : PRow w lo (.slice p n c) A L C n) (hz : ∀ k, k < n → Rd w (A k) (Z k) ∧ L k = (Z k).length) : Prs w p (prsL Z n) := by
  intro i k v hi
  have hin : i < n := by
    have := (List.getElem?_eq_some_iff.1 hi).1
    simpa [prsL] using this
  obtain ⟨rfl, rfl⟩ : k = keyK i ∧ v = Z i := by
    unfold prsL at hi
    rw [List.getElem?_map, List.getElem?_range hin] at hi
    simp only [Option.map_some, Option.some.injEq, Prod.mk.injEq] at hi
    exact ⟨hi.1.symm, hi.2.symm⟩
  rcases h.2 with ⟨hv, hn⟩ | ⟨g, cap, cur, hv, hb, hg, hc, _, hs, hcur⟩
  · omega
  · cases hv
    have h1 : w.ownsRow lo 38 2 (.slice (some ⟨g, 0, none⟩) n c) n (prsC A L C n) := h
    obtain ⟨e1, e2⟩ := prsC_get A L C n i hin
    refine ⟨g, 0, A i, C i, rfl, ?_, ?_, (hz i hin).1, (Array.getElem?_eq_some_iff.1 hg).1⟩
    · rw [Nat.zero_add, h1.cellAt (i * 2) (by omega), e1]
    · rw [Nat.zero_add, h1.cellAt (i * 2 + 1) (by omega), e2, (hz i hin).2]

set_option maxRecDepth 100000 in
set_option maxHeartbeats 8000000 in
theorem lengths_ok (a : Option Addr) (len cap : Nat) (A : Nat → Option Addr) (L C : Nat → Nat) (Z : Nat → List UInt8) {W : World} (hP : PartsAt W a len A L C Z) (hm : len ≤ maxLen) (hK : Kn W W) :
    Calls Tryz.prog 4 #[.slice a len cap] W fun e w' => e = .returned (.bool true) ∧ Below W.heap.size W w' := by
  obtain ⟨sc, hsc⟩ := scs
  have HK := hide hK
  have HM := hide (show len ≤ 9223372036854775807 by unfold maxLen at hm; omega)
  obtain ⟨n, hn⟩ : ∃ n, min len 8 = n := ⟨_, rfl⟩
  have hmin : min (len : Int) 8 = (n : Int) := by omega
  have hn8 : n ≤ 8 ∧ n ≤ len := by omega
  have HP := hide hP
  have HA := hide (fun w2 (f : Still W w2) => awake_ok ((unhide HK).still f))
  have HN := hide (And.intro hn hn8)
  clear hK hP hm hn hn8
  go_enter Tryz.func4, Tryz.ntmps4
  go_wp2_with fail
  go_loopw [3, 4, 6] (fun s v i wr => ∃ (k : Nat) (p : Option Addr) (pc : Nat), i = iv k ∧ s = sv (valsL Z k).flatten ∧ v = .slice p k pc ∧ Hid (k ≤ n ∧ PRow wr W.heap.size (.slice p k pc) A L C k ∧ Still W wr ∧ ∀ i, i < k → L i ≤ 500)) (fun _ _ i _ => n - (RowKit.intOf i).toNat)
  case atStart => exact ⟨0, none, 0, rfl, rfl, rfl, hide ⟨Nat.zero_le _, World.ownsRow_nil _ _ _ _, Fr.refl _ _, fun i hi => by omega⟩⟩
  case round =>
    obtain ⟨k, p, pc, rfl, rfl, rfl, HJ⟩ := hrel
    by_cases hlt : k < n
    · have hlt' : ((k : Int) < n) = True := by simp; omega
      have hk8 : k < 8 := by have := (unhide HN).2.1; omega
      obtain ⟨⟨xb, xo, rfl, xc⟩, xs, xm⟩ := (unhide HP) k (by have := (unhide HN).2.2; omega)
      have c0 : wr.cell? ⟨xb, xo + k, none⟩ = some (.slice (A k) (L k) (C k)) := (unhide HJ).2.2.1.cell' xc fun y => y
      have hkl : (k : Int) < len := by have := (unhide HN).2.2; omega
      have hlm : L k ≤ 9223372036854775807 := by unfold maxLen at xm; omega
      obtain ⟨ak, hak⟩ : ∃ x, A k = x := ⟨_, rfl⟩
      obtain ⟨lk, hlk⟩ : ∃ x, L k = x := ⟨_, rfl⟩
      obtain ⟨ck, hck⟩ : ∃ x, C k = x := ⟨_, rfl⟩
      rw [hak, hlk, hck] at c0
      rw [hlk] at hlm
      have HX := hide (And.intro hak (And.intro hlk (And.intro hck (And.intro xs (And.intro xc hlt)))))
      clear hlt xs xm xc hak hlk hck
      by_cases h5 : 500 < lk
      · have h5' : ((500 : Int) < lk) = True := by simp; omega
        have HA2 := hide (unhide HA wr (unhide HJ).2.2.1)
        clear h5
        go_wp2_with fail
        refine (unhide HA2).mono ?_
        rintro e w2 ⟨rfl, s2⟩
        have S2 := hide ((unhide HJ).2.2.1.trans s2)
        clear s2 HA
        go_wp2
        go_ret
        exact ⟨rfl, (unhide S2).below (Nat.le_refl _) fun _ x => x.elim⟩
      · have h5' : ((500 : Int) < lk) = False := by simp; omega
        have H5 := hide (show lk ≤ 500 by omega)
        clear h5
        obtain ⟨hak, hlk, hck, xs, xc, hlt⟩ := unhide HX
        have hzl : (Z k).length = lk := by rw [← hlk]; exact xs.len.symm
        obtain ⟨z, hz⟩ : ∃ z, Z k = z := ⟨_, rfl⟩
        rw [hz] at hzl
        have hrd : Rd wr ak z := by rw [← hz, ← hak]; exact xs.rd.still (unhide HJ).2.2.1
        have hV := rvalue_ok ((unhide HK).still (unhide HJ).2.2.1) z ak ck hrd (by have := unhide H5; omega)
        rw [hzl] at hV
        have HV := hide hV
        have hvl := valsL_len Z k fun i hi => by
          have h1 := (unhide HJ).2.2.2 i hi
          have h2 := ((unhide HP) i (by have := (unhide HN).2.2; omega)).2.1.len
          omega
        have hv1 := valueV_len z (by have := unhide H5; omega)
        have hsucc := valsL_succ Z k
        rw [hz] at hsucc
        obtain ⟨vz, hvz⟩ : ∃ vz, valueL [86, 65, 76, 85, 69] z = vz := ⟨_, rfl⟩
        obtain ⟨vk, hvk⟩ : ∃ vk, (valsL Z k).flatten = vk := ⟨_, rfl⟩
        rw [hvz] at HV hv1 hsucc
        rw [hvk] at hvl hsucc
        have hadd := fun w => bs_add vk vz (by omega) w
        rw [← hsucc] at hadd
        obtain ⟨vn, hvn⟩ : ∃ vn, (valsL Z (k + 1)).flatten = vn := ⟨_, rfl⟩
        rw [hvn] at hadd
        rw [hvk]
        have HY := hide (And.intro hz (And.intro hzl (And.intro hvn hvk)))
        clear hV hak hlk hck xs xc hlt hz hzl hrd hvl hv1 hsucc hvz hvk hvn
        go_wp2_with fail
        refine (unhide HV).mono ?_
        rintro e w2 ⟨rfl, s2⟩
        have S2 := hide ((unhide HJ).2.2.1.trans s2)
        have c2 : w2.cell? ⟨xb, xo + k, none⟩ = some (.slice ak lk ck) := s2.cell' c0 fun y => y
        have HR := hide (show PRow w2 W.heap.size (.slice p k pc) A L C k from owns_same (unhide HJ).2.1 fun j hj => s2.block j ((unhide HJ).2.1.lt j hj).2 (fun y => y))
        clear s2 HV c0
        have hcv : ∀ w, (convert 3 36 (iv (k : Int))).run Tryz.prog w = .ok (.int .u64 (k : Int)) w := fun w => by
          exact conv_u64 k (by omega) w
        have hdg := fun w => digs_bs k (by omega) w
        have hkey : ∀ w, (Op.stringOp .add ⟨#[107]⟩ (bs (Lib.decDigits k))).run Tryz.prog w = .ok (.string (bs ([107] ++ Lib.decDigits k))) w := fun w => bs_add [107] (Lib.decDigits k) (by have := dec_small k (by omega); simp only [List.length_cons, List.length_nil]; omega) w
        have hkd : ([107] ++ Lib.decDigits k : List UInt8) = keyK k := rfl
        rw [hkd] at hkey
        obtain ⟨dk, hdk⟩ : ∃ dk, Lib.decDigits k = dk := ⟨_, rfl⟩
        rw [hdk] at hdg hkey
        have hpc := prsC_succ A L C k
        obtain ⟨hak, hlk, hck, -⟩ := unhide HX
        rw [hak, hlk, hck] at hpc
        obtain ⟨kk, hkk⟩ : ∃ kk, keyK k = kk := ⟨_, rfl⟩
        rw [hkk] at hkey hpc
        have fd : Still w2 w2.drew := (Fr.refl _ w2).drewN 1
        obtain ⟨pa, pq, u2, hap, o2, f2, -⟩ := row_more infoQ rfl (by decide) (by decide) Tryz.underlying32 w2.drew W.heap.size (.slice p k pc) k _ (owns_same (unhide HR) fun j hj => rfl) [sv kk, .slice ak lk ck] rfl (by simp [Value.oneCell']) (by omega) (unhide S2).size
        rw [← hpc] at o2
        have hown : ∀ j, Value.ownBlock (.slice p k pc) = some j → W.heap.size ≤ j := fun j hj => ((unhide HR).lt j hj).1
        have iu : Still W u2 := ((unhide S2).trans fd).trans' f2 fun g hg => .inr (hown g hg)
        have ia : Still W (w2.alloc (.cells #[sv kk, .slice ak lk ck] 38)).drew := ((unhide S2).alloc _).drewN 1
        have hap' : (Builtin.append_ #[32, 32] 32 #[.slice p k pc, .slice (some ⟨w2.heap.size, 0, none⟩) 1 1]).run Tryz.prog (w2.alloc (.cells #[sv kk, .slice ak lk ck] 38)).drew = .ok (.slice pa (k + 1) pq) u2 := hap
        have KS : ∀ u, Still W u → u.cell? ⟨xb, xo + k, none⟩ = some (.slice ak lk ck) := fun u hu => by
          have := hu.cell' (unhide HX).2.2.2.2.1 (fun y => y)
          rw [hak, hlk, hck] at this; exact this
        have d1 := KS _ ((unhide S2).trans fd)
        have su := KS _ iu; have sl := KS _ ia
        have HAP := hide hap'
        have HE := hide (And.intro (show PRow u2 W.heap.size (.slice pa (k + 1) pq) A L C (k + 1) from o2) iu)
        clear hap hap' o2 f2 hown iu ia KS fd hpc hdk hkk hkd hak hlk hck
        go_wp2_with fail
        go_region_held3 (fun w' => w'.cell? ⟨xb, xo + k, none⟩ = some (.slice ak lk ck)) (first | go_keep | (exact su) | (exact sl)) (first | (go_at_call 14; refine (hdg _).mono ?_; rintro e w9 ⟨rfl, rfl⟩) | (refine step_append_run rfl (.tmp 33) (.tmp 43) 32 rfl _ _ rfl rfl _ u2 (unhide HAP) ?_))
        go_wp2_with fail
        have hY := unhide HY
        exact ⟨⟨k + 1, pa, pq, by go_num, by rw [hY.2.2.1], rfl, hide ⟨by have := (unhide HX).2.2.2.2.2; omega, (unhide HE).1, (unhide HE).2, fun i hi => by
          by_cases hik : i = k
          · rw [hik, (unhide HX).2.1]; exact unhide H5
          · exact (unhide HJ).2.2.2 i (by omega)⟩⟩, by have := (unhide HX).2.2.2.2.2; simp [RowKit.intOf]; omega⟩
    · have hlt' : ((k : Int) < n) = False := by simp; omega
      obtain rfl : k = n := by have := (unhide HJ).1; omega
      have hk8 : k ≤ 8 := (unhide HN).2.1
      have hz : ∀ i, i < k → Rd wr (A i) (Z i) ∧ L i = (Z i).length := fun i hi => by
        have h2 := (unhide HP) i (by have := (unhide HN).2.2; omega)
        exact ⟨h2.2.1.rd.still (unhide HJ).2.2.1, h2.2.1.len⟩
      have hz5 : ∀ i, i < k → (Z i).length ≤ 500 := fun i hi => by rw [← (hz i hi).2]; exact (unhide HJ).2.2.2 i hi
      have hprs : Prs wr p (prsL Z k) := PRow.prs (unhide HJ).2.1 hz
      have hpl : (prsL Z k).length = k := by simp [prsL]
      have hmem : ∀ q v, (q, v) ∈ prsL Z k → ∃ i, i < k ∧ q = keyK i ∧ v = Z i := fun q v h => by
        unfold prsL at h
        obtain ⟨i, hi, e⟩ := List.mem_map.1 h
        cases e
        exact ⟨i, List.mem_range.1 hi, rfl, rfl⟩
      have hR := rpairs_ok ((unhide HK).still (unhide HJ).2.2.1) p pc (prsL Z k) hprs (by omega) (fun q v h => by
        obtain ⟨i, hi, rfl, rfl⟩ := hmem q v h
        have h1 := dec_small i (by omega)
        have h2 := hz5 i hi
        exact ⟨by simp [keyK]; omega, by omega⟩)
      rw [hpl] at hR
      have hvl := valsL_len Z k hz5
      have hpll : (pairsL (prsL Z k)).length ≤ 100000 := by
        have h1 := flat_len (fun p : List UInt8 × List UInt8 => valueL p.1 p.2) 1000 (prsL Z k) fun x hx => by
          obtain ⟨q, v⟩ := x
          obtain ⟨i, hi, rfl, rfl⟩ := hmem q v hx
          have h2 := valueL_len (keyK i) (Z i) (by have := hz5 i hi; omega)
          have h3 := dec_small i (by omega)
          have h4 := hz5 i hi
          simp only [keyK, List.length_cons] at h2
          show (valueL (keyK i) (Z i)).length ≤ _
          simp only [keyK]
          omega
        have h5 := dec_small k (by omega)
        unfold pairsL
        rw [hpl, line2_len]
        simp only [List.length_append, List.length_cons, List.length_nil]
        rw [hpl] at h1
        omega
      have hpa : ansL sc ((valsL Z k).flatten ++ pairsL (prsL Z k) ++ [78, 79, 78, 69, 10]) = some (valsL Z k ++ [pairsL (prsL Z k), [78, 79, 78, 69, 10]]) := by
        have h1 := parts_flat (sc := sc) (valsL Z k ++ [pairsL (prsL Z k), [78, 79, 78, 69, 10]]) (fun q hq => by
          rcases List.mem_append.1 hq with h | h
          · unfold valsL at h
            obtain ⟨i, hi, rfl⟩ := List.mem_map.1 h
            exact ans_value sc _ (by have := hz5 i (List.mem_range.1 hi); omega)
          · simp only [List.mem_cons, List.not_mem_nil, or_false] at h
            rcases h with rfl | rfl
            · exact ans_pairs sc _ (by omega) fun q v h => by
                obtain ⟨i, hi, rfl, rfl⟩ := hmem q v h
                exact ⟨isN_key i (by omega), by have := hz5 i hi; omega⟩
            · exact ans_none sc)
        simpa using h1
      have hRl : (valsL Z k ++ [pairsL (prsL Z k), [78, 79, 78, 69, 10]]).length = k + 2 := by simp [valsL]
      have hR0 : ∀ i, i < k → (valsL Z k ++ [pairsL (prsL Z k), [78, 79, 78, 69, 10]])[i]? = some (valueL [86, 65, 76, 85, 69] (Z i)) := fun i hi => by
        rw [List.getElem?_append_left (by simp [valsL]; exact hi)]
        simp [valsL, hi]
      have hR1 : (valsL Z k ++ [pairsL (prsL Z k), [78, 79, 78, 69, 10]])[k]? = some (pairsL (prsL Z k)) := by
        rw [List.getElem?_append_right (by simp [valsL])]
        simp [valsL]
      have hR2 : (valsL Z k ++ [pairsL (prsL Z k), [78, 79, 78, 69, 10]])[k + 1]? = some [78, 79, 78, 69, 10] := by
        rw [List.getElem?_append_right (by simp [valsL])]
        simp [valsL]
      obtain ⟨vk, hvk⟩ : ∃ vk, (valsL Z k).flatten = vk := ⟨_, rfl⟩
      obtain ⟨R, hRd⟩ : ∃ R, valsL Z k ++ [pairsL (prsL Z k), [78, 79, 78, 69, 10]] = R := ⟨_, rfl⟩
      rw [hRd] at hpa hRl hR0 hR1 hR2
      rw [hvk] at hvl hpa ⊢
      have HPR := hide (fun (w9 : World) (f : Still wr w9) => (by
        have h := rpairs_ok ((unhide HK).still ((unhide HJ).2.2.1.trans f)) p pc (prsL Z k) (fun i q v h => by
          obtain ⟨g, o, a1, c1, e1, e2, e3, e4, e5⟩ := hprs i q v h
          exact ⟨g, o, a1, c1, e1, f.cell' e2 (fun y => y), f.cell' e3 (fun y => y), e4.still f, Nat.lt_of_lt_of_le e5 f.size⟩) (by omega) (fun q v h => by
            obtain ⟨i, hi, rfl, rfl⟩ := hmem q v h
            have h1 := dec_small i (by omega)
            have h2 := hz5 i hi
            exact ⟨by simp [keyK]; omega, by omega⟩)
        rw [hpl] at h; exact h : Calls Tryz.prog 15 #[.slice p k pc] w9 fun e w' => e = .returned (.string (bs (pairsL (prsL Z k)))) ∧ Still w9 w'))
      obtain ⟨pl, hpl2⟩ : ∃ pl, pairsL (prsL Z k) = pl := ⟨_, rfl⟩
      rw [hpl2] at hR hpll hpa hR1 HPR
      have d1 := fun w => bs_add vk pl (by omega) w
      have d2 := fun w => bs_add (vk ++ pl) [78, 79, 78, 69, 10] (by simp; omega) w
      have hsl : (vk ++ pl ++ [78, 79, 78, 69, 10]).length ≤ 1000000 := by simp; omega
      obtain ⟨s1, hs1⟩ : ∃ s1, vk ++ pl = s1 := ⟨_, rfl⟩
      rw [hs1] at d1 d2 hpa hsl
      obtain ⟨s2, hs2⟩ : ∃ s2, s1 ++ [78, 79, 78, 69, 10] = s2 := ⟨_, rfl⟩
      rw [hs2] at d2 hpa hsl
      have hPa := fun (w9 : World) (k9 : Kn W w9) => parse_ok hsc s2 hsl k9
      rw [hpa] at hPa
      have HPa := hide hPa
      have HR := hide hR
      have HZ := hide (And.intro hz5 (And.intro hRl (And.intro hR0 (And.intro hR1 hR2))))
      clear hlt hz hz5 hprs hpl hmem hR hvl hpll hpa hRl hR0 hR1 hR2 hvk hRd hpl2 hsl hs1 hs2 hPa
      go_wp2_with fail
      refine (unhide HR).mono ?_
      rintro e w2 ⟨rfl, s2'⟩
      have S2 := hide ((unhide HJ).2.2.1.trans s2')
      have S2r := hide s2'
      have HO := hide (rnone_ok w2)
      clear s2' HR
      go_wp2_with fail
      refine (unhide HO).mono ?_
      rintro e w3 ⟨rfl, s3⟩
      have S3 := hide ((unhide S2).trans s3)
      have S3r := hide ((unhide S2r).trans s3)
      clear s3 HO
      go_wp2_with fail
      refine (unhide HPa _ ((unhide HK).still (unhide S3))).mono ?_
      rintro e w4 ⟨⟨v, rfl, t4⟩, s4⟩
      have S4 := hide ((unhide S3).trans s4)
      have S4r := hide ((unhide S3r).trans s4)
      obtain ⟨p4, c4, rfl, hc⟩ := t4.rd
      obtain ⟨g4, rfl, y1⟩ := hc (k + 1) _ (unhide HZ).2.2.2.2
      rw [(unhide HZ).2.1]
      have h12 : ((k : Int) + 1 < (k : Int) + 2) = True := by simp only [eq_iff_iff, iff_true]; omega
      have h22 : ((k : Int) + 2 == (k : Int) + 2) = true := by simp
      have q1 : ((bs [78, 79, 78, 69, 10]).toList == [78, 79, 78, 69, 10]) = true := by rw [bs_list]; rfl
      have HC := hide hc
      clear s4 t4 hc HPa d1 d2
      go_wp2_with fail
      obtain ⟨w0, rfl⟩ : ∃ w0, w0 = wr := ⟨_, rfl⟩
      go_loopw [9] (fun i wr => ∃ j : Nat, i = iv j ∧ Hid (j ≤ k ∧ Still w4 wr)) (fun i _ => k - (RowKit.intOf i).toNat)
      case atStart => exact ⟨0, rfl, hide ⟨Nat.zero_le _, Fr.refl _ _⟩⟩
      case round =>
        obtain ⟨j, rfl, HI⟩ := hrel
        by_cases hlt : j < k
        · have hlt2 : ((j : Int) < k) = True := by simp; omega
          have hj8 : j < 8 := by omega
          obtain ⟨⟨xb, xo, rfl, xc⟩, xs, xm⟩ := (unhide HP) j (by have := (unhide HN).2.2; omega)
          have hstill : Still W wr := (unhide S4).trans (unhide HI).2
          have c0 : wr.cell? ⟨xb, xo + j, none⟩ = some (.slice (A j) (L j) (C j)) := hstill.cell' xc fun y => y
          obtain ⟨g5, hg5, y5⟩ := unhide HC j _ ((unhide HZ).2.2.1 j hlt)
          cases hg5
          have c5 : wr.cell? ⟨g4, j, none⟩ = some (sv (valueL [86, 65, 76, 85, 69] (Z j))) := (unhide HI).2.cell' y5 fun y => y
          have hkl : (j : Int) < len := by have := (unhide HN).2.2; omega
          have hjk2 : (j : Int) < (k : Int) + 2 := by omega
          have hz5 := (unhide HZ).1 j hlt
          have hrd : Rd wr (A j) (Z j) := xs.rd.still hstill
          obtain ⟨aj, haj⟩ : ∃ x, A j = x := ⟨_, rfl⟩
          obtain ⟨lj, hlj⟩ : ∃ x, L j = x := ⟨_, rfl⟩
          obtain ⟨cj, hcj⟩ : ∃ x, C j = x := ⟨_, rfl⟩
          obtain ⟨z, hz⟩ : ∃ z, Z j = z := ⟨_, rfl⟩
          rw [haj, hlj, hcj] at c0
          rw [hz] at c5 hz5
          rw [haj, hz] at hrd
          have hzl : lj = z.length := by rw [← hlj, ← hz]; exact xs.len
          have hcv := fun w => conv_u64 lj (by omega) w
          have hdg := fun w => digs_bs lj (by omega) w
          have hcs : ∀ n, (convert 33 9 (.slice aj lj cj)).run Tryz.prog (wr.drewN n) = .ok (.string (bs z)) (wr.drewN n) := fun n => conv_rd (wr.drewN n) aj lj cj z hzl (hrd.still ((Fr.refl _ wr).drewN n))
          have hvl : valueL [86, 65, 76, 85, 69] z = [86, 65, 76, 85, 69, 32] ++ Lib.decDigits lj ++ [10] ++ z ++ [10] := by
            unfold valueL; rw [line2_len, hzl]; simp
          have hdl := dec_small lj (by omega)
          obtain ⟨dj, hdj⟩ : ∃ dj, Lib.decDigits lj = dj := ⟨_, rfl⟩
          rw [hdj] at hdg hvl hdl
          have a1 : ∀ w, (Op.stringOp .add ⟨#[86, 65, 76, 85, 69, 32]⟩ (bs dj)).run Tryz.prog w = .ok (.string (bs ([86, 65, 76, 85, 69, 32] ++ dj))) w := fun w => bs_add [86, 65, 76, 85, 69, 32] dj (by simp; omega) w
          have a2 : ∀ w, (Op.stringOp .add (bs ([86, 65, 76, 85, 69, 32] ++ dj)) ⟨#[10]⟩).run Tryz.prog w = .ok (.string (bs ([86, 65, 76, 85, 69, 32] ++ dj ++ [10]))) w := fun w => bs_add _ [10] (by simp; omega) w
          have a3 : ∀ w, (Op.stringOp .add (bs ([86, 65, 76, 85, 69, 32] ++ dj ++ [10])) (bs z)).run Tryz.prog w = .ok (.string (bs ([86, 65, 76, 85, 69, 32] ++ dj ++ [10] ++ z))) w := fun w => bs_add _ z (by simp; omega) w
          have a4 : ∀ w, (Op.stringOp .add (bs ([86, 65, 76, 85, 69, 32] ++ dj ++ [10] ++ z)) ⟨#[10]⟩).run Tryz.prog w = .ok (.string (bs ([86, 65, 76, 85, 69, 32] ++ dj ++ [10] ++ z ++ [10]))) w := fun w => bs_add _ [10] (by simp; omega) w
          rw [← hvl] at a4
          obtain ⟨t1, ht1⟩ : ∃ t, ([86, 65, 76, 85, 69, 32] ++ dj : List UInt8) = t := ⟨_, rfl⟩
          rw [ht1] at a1 a2 a3 a4
          obtain ⟨t2, ht2⟩ : ∃ t, t1 ++ [10] = t := ⟨_, rfl⟩
          rw [ht2] at a2 a3 a4
          obtain ⟨t3, ht3⟩ : ∃ t, t2 ++ z = t := ⟨_, rfl⟩
          rw [ht3] at a3 a4
          obtain ⟨vz, hvz⟩ : ∃ v, valueL [86, 65, 76, 85, 69] z = v := ⟨_, rfl⟩
          rw [hvz] at a4 c5
          have qv : ((bs vz).toList == (bs vz).toList) = true := by simp
          have HT := hide hlt
          clear hlt xc xs xm hstill y5 hz5 hrd haj hlj hcj hz hzl hvl hdl hdj ht1 ht2 ht3 hvz
          go_wp2_with (first | (go_at_call 14; refine (hdg _).mono ?_; rintro e w9 ⟨rfl, rfl⟩))
          go_quiet (first | fail)
          go_wp2
          exact ⟨⟨j + 1, by go_num, hide ⟨by have := unhide HT; omega, (unhide HI).2.trans ((Fr.refl _ _).drewN _)⟩⟩, by have := unhide HT; simp [RowKit.intOf]; omega⟩
        · have hlt2 : ((j : Int) < k) = False := by simp; omega
          clear hlt
          go_wp2_with fail
          have fD : Still wr wr.drew := (Fr.refl _ wr).drewN 1
          obtain ⟨g5, hg5, y5⟩ := unhide HC k _ (unhide HZ).2.2.2.1
          cases hg5
          have x0 : wr.drew.cell? ⟨g4, k, none⟩ = some (sv pl) := ((unhide HI).2.trans fD).cell' y5 fun y => y
          have HQ := hide (unhide HPR wr.drew ((unhide S4r).trans ((unhide HI).2.trans fD)))
          have HS := hide ((unhide S4).trans ((unhide HI).2.trans fD))
          clear fD
          have hkk2 : (k : Int) < (k : Int) + 2 := by omega
          refine wp_region_held_drew (S := fun w' => w'.cell? ⟨g4, k, none⟩ = some (sv pl)) (by kernel_rfl) x0 (fun hHeld => ?_)
          refine take_l 0 (v := ?_) rfl (by kernel_rfl) (by kernel_rfl) (by kernel_rfl) (fun _ _ _ h => h) (Or.inl ⟨by rfl, ?_⟩) hHeld ?_
          rotate_left
          · (intro w hSw; (try dsimp only at hSw); go_simp; (try with_reducible rfl))
          simp only [Act.put, List.setIfInBounds_toArray, List.set_cons_zero, List.set_cons_succ]
          refine take_l 1 (v := ?_) rfl (by kernel_rfl) (by kernel_rfl) (by kernel_rfl) (fun _ _ _ h => h) (Or.inl ⟨by rfl, ?_⟩) hHeld ?_
          rotate_left
          · (intro w hSw; (try dsimp only at hSw); go_simp; (try with_reducible rfl))
          simp only [Act.put, List.setIfInBounds_toArray, List.set_cons_zero, List.set_cons_succ]
          refine take_l 2 (v := ?_) rfl (by kernel_rfl) (by kernel_rfl) (by kernel_rfl) (fun _ _ _ h => h) (Or.inl ⟨by rfl, ?_⟩) hHeld ?_
          rotate_left
          · (intro w hSw; (try dsimp only at hSw); go_simp; (try with_reducible rfl))
          simp only [Act.put, List.setIfInBounds_toArray, List.set_cons_zero, List.set_cons_succ]
          refine take_l 3 (v := ?_) rfl (by kernel_rfl) (by kernel_rfl) (by kernel_rfl) (fun _ _ _ h => h) (Or.inl ⟨by rfl, ?_⟩) hHeld ?_
          rotate_left
          · (intro w hSw; (try dsimp only at hSw); go_simp; (try with_reducible rfl))
          simp only [Act.put, List.setIfInBounds_toArray, List.set_cons_zero, List.set_cons_succ]
          refine take_l 4 (v := ?_) rfl (by kernel_rfl) (by kernel_rfl) (by kernel_rfl) (fun _ _ _ h => h) (Or.inl ⟨by rfl, ?_⟩) hHeld ?_
          rotate_left
          · (intro w hSw; (try dsimp only at hSw); go_simp; (try with_reducible rfl))
          simp only [Act.put, List.setIfInBounds_toArray, List.set_cons_zero, List.set_cons_succ]
          refine wpAnyH_ready (rs := [5]) (by kernel_rfl) (by simp) ?_
          refine AllReadyH.cons rfl (fun K hK => ?_) AllReadyH.nil
          go_simp
          go_wp2_with fail
          refine (unhide HQ).mono ?_
          rintro e w5 ⟨rfl, s5⟩
          have S5 := hide ((unhide HS).trans s5)
          have x5 := s5.cell' x0 fun y => y
          have HX5 := hide x5
          have hAW := hide (unhide HA w5 (unhide S5))
          have qv : ((bs pl).toList == (bs pl).toList) = true := by simp
          refine hK.out _ _ x5 (fun hHeld => ?_)
          clear hK K s5 x0 x5 HQ HA
          refine take_l 6 (v := ?_) rfl (by kernel_rfl) (by kernel_rfl) (by kernel_rfl) (fun _ _ _ h => h) (Or.inl ⟨by rfl, ?_⟩) hHeld ?_
          rotate_left
          · (intro w hSw; (try dsimp only at hSw); go_simp; (try with_reducible rfl))
          simp only [Act.put, List.setIfInBounds_toArray, List.set_cons_zero, List.set_cons_succ]
          refine take_l 7 (v := ?_) rfl (by kernel_rfl) (by kernel_rfl) (by kernel_rfl) (fun _ _ _ h => h) (Or.inl ⟨by rfl, ?_⟩) hHeld ?_
          rotate_left
          · (intro w hSw; (try dsimp only at hSw); go_simp; (try with_reducible rfl))
          simp only [Act.put, List.setIfInBounds_toArray, List.set_cons_zero, List.set_cons_succ]
          refine wpAnyH_ready (rs := [8]) (by kernel_rfl) (by simp) ?_
          refine AllReadyH.cons rfl (fun K hK => ?_) AllReadyH.nil
          go_simp
          go_wp2_with fail
          refine (unhide hAW).mono ?_
          rintro e w6 ⟨rfl, s6⟩
          have S6 := hide ((unhide S5).trans s6)
          have x6 := s6.cell' (unhide HX5) fun y => y
          refine hK.out _ _ x6 (fun hHeld => ?_)
          clear hK K s6 x6
          refine take_l 9 (v := ?_) rfl (by kernel_rfl) (by kernel_rfl) (by kernel_rfl) (fun _ _ _ h => h) (Or.inl ⟨by rfl, ?_⟩) hHeld ?_
          rotate_left
          · (intro w hSw; (try dsimp only at hSw); go_simp; (try with_reducible rfl))
          simp only [Act.put, List.setIfInBounds_toArray, List.set_cons_zero, List.set_cons_succ]
          refine take_l 10 (v := ?_) rfl (by kernel_rfl) (by kernel_rfl) (by kernel_rfl) (fun _ _ _ h => h) (Or.inl ⟨by rfl, ?_⟩) hHeld ?_
          rotate_left
          · (intro w hSw; (try dsimp only at hSw); go_simp; (try with_reducible rfl))
          simp only [Act.put, List.setIfInBounds_toArray, List.set_cons_zero, List.set_cons_succ]
          refine wpAnyH_done (by kernel_rfl) ?_ _
          go_wp2
          go_ret
          exact ⟨rfl, (unhide S6).below (Nat.le_refl _) fun _ x => x.elim⟩
end Go.Proofs.YticflknfkaoejaaGreatDoor
