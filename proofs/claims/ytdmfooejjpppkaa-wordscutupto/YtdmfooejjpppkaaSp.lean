/- Split of the front of joined parts. -/
import Derived.Test.YtdmfooejjpppkaaVr
import Derived.Laws.CopyOwn
namespace Go.Proofs.Ytdmfooejjpppkaa
open Go.RowKit

theorem rows_below {t : TypeId} {w w' : World} {base base' n : Nat} {v : Value} {xs : List Value} (h : w.ownsRow base t 1 v n xs) (b : Below base' w w') (hb : w.heap.size ≤ base') : w'.ownsRow base t 1 v n xs := by
  refine ⟨h.1, ?_⟩
  rcases h.2 with hn | ⟨g, cap, cur, hv, hg, hgg, rest⟩
  · exact .inl hn
  · exact .inr ⟨g, cap, cur, hv, hg, (b.block g (Nat.lt_of_lt_of_le (Array.getElem?_eq_some_iff.1 hgg).1 hb)).trans hgg, rest⟩
theorem rows_form {t : TypeId} {w : World} {base n : Nat} {v : Value} {xs : List Value} (h : w.ownsRow base t 1 v n xs) : ∃ pa pc, v = .slice pa n pc := by
  rcases h.2 with ⟨hv, hn⟩ | ⟨g, cap, cur, hv, _⟩
  · exact ⟨none, 0, by rw [hn]; exact hv⟩
  · exact ⟨_, cap, hv⟩
theorem append_val {et st : TypeId} {z : Value} {bytes : Nat} (hinfo : (Try.prog.info? et).map (fun i => (i.zero, i.size, i.bytes)) = some (some z, 1, bytes)) (hz1 : z.cells.size = 1) (hbb : bytes ≤ 24) (hun : Try.prog.underlying st = some (.slice et))
    {ops : Array Oper} {rest : List Oper} {o : Oper} {a : Act} {Q : Exit → Act → World → Prop} (w : World) (hgd : o.guard = none) (s x : Operand)
    (ho : o.op = .call { callee := .builtin .append, args := #[s, x], argTypes := #[st, st] }) (base : Nat) (v : Value) (n : Nat) (y : Value) (hy : y.oneCell' = true)
    (hs : a.eval s = v) (hown : ∃ xs, w.ownsRow base et 1 v n xs) (hx : a.eval x = .slice (some ⟨w.heap.size, 0, none⟩) 1 1) (hl : n ≤ 1000) (hbase : base ≤ w.heap.size)
    (h : ∀ v' w', (∃ xs, w'.ownsRow base et 1 v' (n + 1) xs) → Below base w w' → wpList Try.prog ops Q rest (a.put o.dst v') w') :
    wpList Try.prog ops Q (o :: rest) a (w.alloc (.cells #[y] et)) := by
  obtain ⟨i, hi, hzz⟩ := Option.map_eq_some_iff.1 hinfo
  simp only [Prod.mk.injEq] at hzz
  obtain ⟨hz, hsize, hby⟩ := hzz
  obtain ⟨xs, hown⟩ := hown
  have b0 : Below w.heap.size w (w.alloc (.cells #[y] et)) := (Below.refl _ w).alloc (Nat.le_refl _) _
  have own_lt : ∀ g, v.ownBlock = some g → base ≤ g := fun g hg => (hown.lt g hg).1
  refine wpList_append_own_at _ hgd s x st ho base et i z 1 bytes hun hi hz hsize hby hz1 (by decide) v n xs hs (rows_below hown b0 (Nat.le_refl _)) ⟨w.heap.size, 0, none⟩ 1 1 [y] hx rfl (cell_one_new _ _ _) ?_ ?_ ?_ (by simp; omega) ?_
  · intro u hu; simp at hu; rw [hu]; exact hy
  · unfold maxLen; omega
  · have : (n + 1) * bytes ≤ 1001 * 24 := Nat.mul_le_mul (by omega) hbb
    omega
  · intro v' w' h1 h2 _ _
    exact h v' w' ⟨_, h1⟩ ((b0.mono hbase).trans ((Below.refl base _).grown h2 (by simp; omega) own_lt))
theorem infoS : (Try.prog.info? 22).map (fun i => (i.zero, i.size, i.bytes)) = some (some (.slice none 0 0), 1, 24) := by kernel_rfl
theorem infoT : (Try.prog.info? 9).map (fun i => (i.zero, i.size, i.bytes)) = some (some (.string ⟨#[]⟩), 1, 16) := by kernel_rfl

/-- Where a slice begins that leaves out its first l. -/
def cutA (a : Option Addr) (cap l : Nat) : Option Addr := if cap = l then a else a.map (·.add (l * 1))
theorem slice_run (a : Option Addr) (len cap l : Nat) (k : IntKind) (w : World) (hl : l ≤ len) : (Instr.slice 22 (.slice a len cap) (some (.int k (l : Nat))) none none).run Try.prog w = .ok (.slice (cutA a cap l) (len - l) (cap - l)) w := by
  obtain ⟨i, hi, hzz⟩ := Option.map_eq_some_iff.1 infoB
  simp only [Prod.mk.injEq] at hzz
  have he : Try.prog.elem 22 = 5 := by kernel_rfl
  have hs : (sizeOf 5).run Try.prog w = .ok 1 w := by simp [sizeOf, typeInfo, hi, hzz.2.1]
  rw [run_slice_l (P := Try.prog) w 22 a len cap (by rw [he]; exact Try.underlying22) k (l : Nat) (by omega) (by omega), he, hs]
  simp [Result.andThen, sliced, cutA]
theorem cut_nats (a : Option Addr) (len cap l : Nat) (w : World) (hc : len ≤ cap) (f : Nat → Nat) (hN : Nats .u8 w a len f) : Nats .u8 w (cutA a cap l) (len - l) (fun t => f (l + t)) := by
  intro i hi
  obtain ⟨xb, xo, rfl, c⟩ := hN (l + i) (by omega)
  unfold cutA
  rw [if_neg (by omega)]
  have hadd : (⟨xb, xo, none⟩ : Addr).add (l * 1) = ⟨xb, xo + l, none⟩ := by unfold Addr.add; split <;> simp_all
  exact ⟨xb, xo + l, by simp only [Option.map_some, hadd], by rw [Nat.add_assoc]; exact c⟩
theorem make_bytes64 (n : Nat) (hn : n ≤ 1000000) (w : World) : ∃ w', (Instr.makeSlice 22 (.int .u64 (n : Int)) (.int .u64 (n : Int))).run Try.prog w = .ok (.slice (some ⟨w.heap.size, 0, none⟩) n n) w' ∧ (∃ cur : List Value, w'.heap[w.heap.size]? = some (.cells cur.toArray 5 (0, 0)) ∧ cur.length = n) ∧ Below w.heap.size w w' :=
  ⟨_, run_make_row' 22 5 (.int .u8 0) 1 Try.underlying22 infoB rfl .u64 .u64 n (by omega) (by omega) w, ⟨(madeCells #[.int .u8 0] n).toList, by rw [heap_alloc_new], by simp [madeCells]⟩, (Below.refl _ w).alloc (Nat.le_refl _) _⟩
theorem no_off (L : Nat → Nat) (i k : Nat) (h1 : offL L i < k) (h2 : k < offL L (i + 1)) : ∀ j, offL L j ≠ k := by
  intro j e
  rcases Nat.lt_or_ge i j with h | h
  · rcases Nat.lt_or_ge (i + 1) j with h3 | h3
    · have := off_lt L (i + 1) j h3; omega
    · have e2 : j = i + 1 := by omega
      subst e2; omega
  · rcases Nat.lt_or_ge j i with h3 | h3
    · have := off_lt L j i h3; omega
    · have e2 : j = i := by omega
      subst e2; omega
theorem cells_u8 : (Try.prog.info? 5).map (·.size) = some 1 := by
  obtain ⟨i, hi, hzz⟩ := Option.map_eq_some_iff.1 infoB
  simp only [Prod.mk.injEq] at hzz
  rw [hi]; simp [hzz.2.1]
/-- A copy of the first of a row into a new one. -/
theorem copy_run (w0 w : World) (g d : Nat) (cur : List Value) (a : Option Addr) (n c : Nat) (f : Nat → Nat) (hg : w.heap[g]? = some (.cells cur.toArray 5 (0, 0))) (hl : cur.length = d) (hd : d ≤ n) (hN : Nats .u8 w a n f) (hB : Below w0.heap.size w0 w) (hw : w0.heap.size ≤ g) :
    ∃ w' v, (Builtin.copy_ #[22, 22] 3 #[.slice (some ⟨g, 0, none⟩) d d, .slice a n c]).run Try.prog w = .ok v w' ∧ Below w0.heap.size w0 w' := by
  by_cases h0 : d = 0
  · exact ⟨w, _, run_copy_none (P := Try.prog) w 22 22 3 5 _ _ d d n c Try.underlying22 cells_u8 (by subst h0; exact Nat.min_zero _), hB⟩
  · obtain ⟨xb, xo, rfl, _⟩ := hN 0 (by omega)
    refine ⟨_, _, run_copy_row (P := Try.prog) w 22 22 3 5 g 0 d d ⟨xb, xo, none⟩ n c cur.toArray 5 (vals .u8 (rowL f d)) Try.underlying22 cells_u8 hg ?_ ?_ ?_ ?_, below_setRow hB hw _⟩
    · simp [rowL]; exact (Nat.min_eq_right hd).symm
    · intro j u hu
      have hj : j < d := by have := (List.getElem?_eq_some_iff.1 hu).1; simpa [rowL] using this
      obtain ⟨_, _, e, c⟩ := hN j (by omega)
      cases e
      have hadd : (⟨xb, xo, none⟩ : Addr).add j = ⟨xb, xo + j, none⟩ := by unfold Addr.add; split <;> simp_all
      rw [hadd, c, ← hu]
      simp [rowL, hj]
    · simp [rowL]; omega
    · intro u hu; simp at hu; obtain ⟨_, _, rfl⟩ := hu; rfl
/-- How long a slice is. -/
def lenOf : Value → Nat | .slice _ m _ => m | _ => 0
set_option maxRecDepth 100000 in
set_option maxHeartbeats 4000000 in
theorem split_ok (a : Option Addr) (k cap n : Nat) (L : Nat → Nat) (Z : Nat → Nat → Nat) (w : World) (hN : Nats .u8 w a k (joinF L Z n)) (hk : k < offL L n) (hkc : k ≤ cap) (hn : n ≤ 20) (hL : ∀ i, i < n → L i ≤ 3000) (hk2 : k ≤ 100000) :
    Calls Try.prog 9 #[.slice a k cap] w fun e w' => Below w.heap.size w w' ∧
      ((∃ i, i < n ∧ offL L i = k ∧ ∃ pa pc, e = .returned (.tuple #[.slice pa i pc, .int .i64 0])) ∨ ((∀ i, offL L i ≠ k) ∧ e = .returned (.tuple #[.slice none 0 0, .int .i64 4]))) := by
  have HN := hide hN
  have HL := hide hL
  have HAt := hide (fun i hi => joinF_at L Z n i hi (fun j hj => by have := hL j hj; omega))
  have KV := hide var_ok
  have HK := hide hk
  have HKC := hide hkc
  clear hN hL
  go_enter Try.func9, Try.ntmps9
  go_wp2_with fail
  go_loopw [0, 4] (fun vb vp wr => ∃ (i c : Nat) (ab : Option Addr), vb = .slice ab (k - offL L i) c ∧ Hid (offL L i ≤ k ∧ k - offL L i ≤ c ∧ (∀ w2, Below w.heap.size w w2 → Nats .u8 w2 ab (k - offL L i) (fun t => joinF L Z n (offL L i + t))) ∧ (∃ xs, wr.ownsRow w.heap.size 22 1 vp i xs) ∧ Below w.heap.size w wr)) (fun vb vp wr => lenOf vb)
  case atStart => exact ⟨0, cap, a, rfl, hide ⟨Nat.zero_le _, by simpa [offL] using unhide HKC, fun w2 h => by simpa [offL] using (unhide HN).on h, ⟨[], World.ownsRow_nil _ _ _ _⟩, Below.refl _ _⟩⟩
  case round =>
    obtain ⟨i, c, ab, rfl, HI⟩ := hrel
    obtain ⟨ho, hc, hNa, hXs, hB⟩ := unhide HI
    by_cases hend : offL L i = k
    · have he : k - offL L i = 0 := by omega
      rw [he]
      have hi : i < n := by
        rcases Nat.lt_or_ge i n with h | h
        · exact h
        · rcases Nat.lt_or_ge n i with h2 | h2
          · have := off_lt L n i h2; have := unhide HK; omega
          · have e : i = n := by omega
            subst e; have := unhide HK; omega
      obtain ⟨xs, hX⟩ := hXs
      obtain ⟨pa, pc, rfl⟩ := rows_form hX
      have HB := hide hB
      have HE := hide hend
      have HII := hide hi
      clear HI hX hNa hB hend hc ho he
      go_wp2
      go_ret2
      exact ⟨unhide HB, .inl ⟨i, unhide HII, unhide HE, pa, pc, rfl⟩⟩
    · have hi : i < n := by
        rcases Nat.lt_or_ge i n with h | h
        · exact h
        · rcases Nat.lt_or_ge n i with h2 | h2
          · have := off_lt L n i h2; have := unhide HK; omega
          · have e : i = n := by omega
            subst e; have := unhide HK; omega
      have hli := unhide HL i hi
      obtain ⟨hA1, hA2⟩ := unhide HAt i hi
      have hstep : offL L (i + 1) = offL L i + (ul (L i) + L i) := rfl
      have hup := ul_pos (L i)
      have hpos : (0 : Int) < ((k - offL L i : Nat) : Int) := by omega
      have KV1 := hide (unhide KV ab (k - offL L i) c (fun t => joinF L Z n (offL L i + t)) (L i) wr (hNa wr hB) (by omega) (by omega) (by omega) hA1 (fun h => ⟨(hA2 h).1, fun _ => (hA2 h).2⟩))
      by_cases htorn : L i < 128 ∨ 2 ≤ k - offL L i
      · have hv : varR (L i) (k - offL L i) = #[.int .u64 (L i : Nat), .int .i64 (ul (L i) : Nat), .int .i64 0] := by unfold varR; rw [if_pos htorn]
        rw [hv] at KV1
        have hum : ul (L i) ≤ k - offL L i := by
          unfold ul; split <;> omega
        have hs1 := slice_run ab (k - offL L i) c (ul (L i)) .i64 wr hum
        by_cases hbig : k - offL L i - ul (L i) < L i
        · have hbig' : ((k - offL L i - ul (L i) : Nat) : Int) < (L i : Nat) := by omega
          have HNO := hide (no_off L i k (by omega) (by rw [hstep]; omega))
          have HB := hide hB
          have hmm : k - offL L i - ul (L i) ≤ 100000 := by omega
          clear HI hNa hXs hB hA1 hA2 hv hstep htorn hend hbig
          generalize ul (L i) = u at *
          generalize k - offL L i - u = m2 at *
          generalize k - offL L i = m at *
          generalize cutA ab c u = ab2 at *
          go_wp2_with fail
          refine (unhide KV1).mono ?_
          rintro e w' ⟨rfl, h⟩; rw [h]; clear h w'
          go_wp2
          go_ret2
          exact ⟨unhide HB, .inr ⟨unhide HNO, rfl⟩⟩
        · have hbig' : ¬ ((k - offL L i - ul (L i) : Nat) : Int) < (L i : Nat) := by omega
          have HST := hide hstep
          have hmm : k - offL L i - ul (L i) ≤ 100000 := by omega
          have HNB := hide (show ∀ w2, Below w.heap.size w w2 → Nats .u8 w2 (cutA ab c (ul (L i))) (k - offL L i - ul (L i)) (fun t => joinF L Z n (offL L i + (ul (L i) + t))) from fun w2 h => cut_nats ab (k - offL L i) c (ul (L i)) w2 hc _ (hNa w2 h))
          obtain ⟨w1, hmk, ⟨cur, hcur, hcl⟩, hB1⟩ := make_bytes64 (L i) (by omega) wr
          have HC := hide hcur
          have HCL := hide hcl
          have HB1 := hide hB1
          have HB := hide hB
          have HX := hide hXs
          have HW1 := hide (hB.trans (hB1.mono hB.size))
          have HKO := hide (show offL L i < k ∧ ul (L i) ≤ k - offL L i ∧ L i ≤ k - offL L i - ul (L i) ∧ k - offL L i ≤ c from ⟨by omega, hum, by omega, hc⟩)
          have hg0 : w.heap.size ≤ wr.heap.size := hB.size
          have hi20 : i ≤ 1000 := by omega
          clear HI hNa hXs hB hA1 hA2 hv hstep htorn hend hbig hcur hcl hB1
          generalize hu : ul (L i) = u at *
          generalize hm2 : k - offL L i - u = m2 at *
          generalize hm : k - offL L i = m at *
          generalize ha2 : cutA ab c u = ab2 at *
          generalize hlk : L i = li at *
          have HEQ := hide (And.intro hu (And.intro hm2 (And.intro hm (And.intro ha2 hlk))))
          clear hu hm2 hm ha2 hlk
          obtain ⟨w2, cv, hcp, hB2⟩ := copy_run wr w1 wr.heap.size li cur ab2 m2 (c - u) _ (unhide HC) (unhide HCL) (unhide HKO).2.2.1 (unhide HNB w1 (unhide HW1)) (unhide HB1) (Nat.le_refl _)
          have HB2 := hide hB2
          have HW2 := hide ((unhide HB).trans (hB2.mono (unhide HB).size))
          have hw2s : w.heap.size ≤ w2.heap.size := (unhide HW2).size
          have HX2 := hide (show ∃ xs, w2.ownsRow w.heap.size 22 1 u4 i xs from (unhide HX).imp fun xs h => rows_below h hB2 (Nat.le_refl _))
          clear hB2
          have hs2 := fun w => slice_run ab2 m2 (c - u) li .u64 w (unhide HKO).2.2.1
          go_wp2_with fail
          refine (unhide KV1).mono ?_
          rintro e w' ⟨rfl, h⟩; rw [h]; clear h w'
          go_wp2_with (at_builtin; refine append_val infoS rfl (by decide) Try.underlying28 w2 rfl (.tmp 34) (.tmp 36) rfl w.heap.size _ i _ rfl rfl (unhide HX2) rfl hi20 hw2s ?_)
          intro v3 w3 xs3 hX3 hB3
          have HX3 := hide (show ∃ xs, w3.ownsRow w.heap.size 22 1 v3 (i + 1) xs from ⟨xs3, hX3⟩)
          have HW3 := hide ((unhide HW2).trans hB3)
          clear hX3 hB3
          have HFN := hide (show offL L (i + 1) ≤ k ∧ k - offL L (i + 1) = m2 - li ∧ k - offL L (i + 1) ≤ c - u - li ∧ m2 - li < m ∧ ∀ t, offL L i + (u + (li + t)) = offL L (i + 1) + t by
            obtain ⟨e1, e2, e3, _, e5⟩ := unhide HEQ
            have e6 := unhide HST
            have e7 := unhide HKO
            rw [e6]
            refine ⟨by omega, by omega, by omega, by omega, fun t => by omega⟩)
          go_wp2
          go_roundw
          case rel =>
            obtain ⟨f1, f2, f3, _, f5⟩ := unhide HFN
            refine ⟨i + 1, c - u - li, cutA ab2 (c - u) li, by rw [f2], hide ⟨f1, f3, fun w4 h4 => ?_, unhide HX3, unhide HW3⟩⟩
            have h5 := cut_nats ab2 m2 (c - u) li w4 (by have := (unhide HKO).2.2.2; have e := unhide HEQ; omega) _ (unhide HNB w4 h4)
            rw [f2]
            intro t ht
            obtain ⟨xb, xo, e, cc⟩ := h5 t ht
            refine ⟨xb, xo, e, ?_⟩
            rw [cc]
            show some (Value.int .u8 ((joinF L Z n (offL L i + (u + (li + t))) : Nat) : Int)) = _
            rw [f5 t]
          case measure =>
            have := unhide HFN
            simp [lenOf]; omega
      · have hv : varR (L i) (k - offL L i) = #[.int .u64 0, .int .i64 0, .int .i64 4] := by unfold varR; rw [if_neg htorn]
        rw [hv] at KV1
        have hu2 : ul (L i) = 2 := by unfold ul; rw [if_neg (by omega)]
        have HNO := hide (no_off L i k (by omega) (by rw [hstep]; omega))
        have HB := hide hB
        clear HI hNa hXs hB hA1 hA2 hv hstep htorn hend
        generalize k - offL L i = m at *
        go_wp2_with fail
        refine (unhide KV1).mono ?_
        rintro e w' ⟨rfl, h⟩; rw [h]; clear h w'
        go_wp2
        go_ret2
        exact ⟨unhide HB, .inr ⟨unhide HNO, rfl⟩⟩
end Go.Proofs.Ytdmfooejjpppkaa
