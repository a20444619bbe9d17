/- Pieces. -/
import Derived.Test.YtdgobaknbjlahaaGreatDoorGHe
import Derived.Maps.AppendAt
namespace Go.Proofs.YtdgobaknbjlahaaGreatDoor
open Go.RowKit

/-- The units below n at which pieces begin. -/
def plU (K : Nat → Nat) : Nat → List Nat
  | 0 => []
  | n + 1 => plU K n ++ (if K n = 0 then [] else [n])
def plP (nu : Nat) (K : Nat → Nat) (n : Nat) : List Nat := (plU K n).map fun u => fi nu + u * 8

section
variable {nu sz : Nat} {K : Nat → Nat}
theorem plU_zero {n : Nat} (h : K n = 0) : plU K (n + 1) = plU K n := by simp [plU, h]
theorem plU_one {n : Nat} (h : K n ≠ 0) : plU K (n + 1) = plU K n ++ [n] := by simp [plU, h]
theorem plU_past {nu : Nat} (h : ∀ u, K u ≠ 0 → u < nu) {n : Nat} (hn : nu ≤ n) : plU K n = plU K nu := by
  obtain ⟨d, rfl⟩ : ∃ d, n = nu + d := ⟨n - nu, by omega⟩
  clear hn
  induction d with
  | zero => rfl
  | succ d ih => rw [← Nat.add_assoc, plU_zero (Classical.byContradiction fun e => by have := h _ e; omega), ih]
theorem plU_len (n : Nat) : (plU K n).length = sumTo (fun u => if K u = 0 then 0 else 1) n := by
  induction n with
  | zero => rfl
  | succ n ih =>
    simp only [plU, sumTo, List.length_append, ih]
    split <;> simp
theorem plU_mem {n u : Nat} : u ∈ plU K n ↔ u < n ∧ K u ≠ 0 := by
  induction n with
  | zero => simp [plU]
  | succ n ih =>
    simp only [plU, List.mem_append, ih]
    by_cases h : K n = 0
    · simp only [h, if_true, List.not_mem_nil, or_false]
      constructor
      · rintro ⟨h1, h2⟩; exact ⟨by omega, h2⟩
      · rintro ⟨h1, h2⟩; exact ⟨Nat.lt_of_le_of_ne (by omega) (fun e => h2 (e ▸ h)), h2⟩
    · simp only [h, if_false, List.mem_singleton]
      constructor
      · rintro (⟨h1, h2⟩ | rfl)
        · exact ⟨by omega, h2⟩
        · exact ⟨by omega, h⟩
      · rintro ⟨h1, h2⟩
        by_cases e : u = n
        · exact .inr e
        · exact .inl ⟨by omega, h2⟩
theorem plU_rise (n : Nat) : (plU K n).Pairwise (· < ·) := by
  induction n with
  | zero => simp [plU]
  | succ n ih =>
    simp only [plU]
    rw [List.pairwise_append]
    refine ⟨ih, by split <;> simp, fun a ha c hc => ?_⟩
    split at hc
    · simp at hc
    · simp at hc
      subst hc
      exact (plU_mem.1 ha).1
theorem plP_len (n : Nat) : (plP nu K n).length = sumTo (fun u => if K u = 0 then 0 else 1) n := by simp [plP, plU_len]
theorem plP_one {n : Nat} (h : K n ≠ 0) : plP nu K (n + 1) = plP nu K n ++ [fi nu + n * 8] := by simp [plP, plU_one h]
theorem plP_zero {n : Nat} (h : K n = 0) : plP nu K (n + 1) = plP nu K n := by simp [plP, plU_zero h]
theorem plP_le (n : Nat) : (plP nu K n).length ≤ n := by
  rw [plP_len]
  have : sumTo (fun u => if K u = 0 then 0 else 1) n ≤ sumTo (fun _ => 1) n := sumTo_le fun u _ => by split <;> omega
  rwa [sumTo_one] at this
end

theorem ask_word {nu : Nat} {f : Nat → Int} {q j : Nat} (h : f (aw nu + q) = 0) (hj : j < 4) (hq : q < qa nu) : ask nu f (4 * q + j) = 0 := by
  rw [ask_of (by omega), show (4 * q + j) / 4 = q by omega, h]
  simp [dig]

section
variable {nu sz : Nat} {w w' : World} {hb sb b : Nat} {T : Tay} {A : Ab} {P : List (Int × Int)}

set_option maxRecDepth 20000 in
set_option maxHeartbeats 4000000 in
theorem h_pieces (h : Hp nu sz w hb sb b T A P) (s : HpS nu (says P A)) : Calls Tryz.prog 18 #[ptr hb] w fun e w' => ∃ v, e = .returned v ∧ w'.ownsRow w.heap.size 3 1 v (cnt nu (ask nu (says P A))) (natVals (plP nu (ask nu (says P A)) nu)) ∧ Still w w' := by
  have hi := info3
  obtain ⟨i0, hi0⟩ : ∃ i, Tryz.prog.info? 3 = some i := by
    cases h : Tryz.prog.info? 3 with
    | none => rw [h] at hi; simp at hi
    | some i => exact ⟨i, rfl⟩
  rw [hi0] at hi
  simp only [Option.map_some, Option.some.injEq, Prod.mk.injEq] at hi
  have HI := hide (And.intro hi0 hi)
  clear hi hi0
  obtain ⟨g1, g2, g3, g4, g5, g6⟩ := h.hp.geo.b
  have HH := hide h; have HS := hide s
  clear h s
  go_enter Tryz.func18, Tryz.ntmps18
  go_wp2_with fail
  go_loopw [3, 4] (fun v i wr => ∃ q : Nat, q ≤ qa nu ∧ i = .int .i64 (4 * q) ∧ wr.ownsRow w.heap.size 3 1 v (plP nu (ask nu (says P A)) (4 * q)).length (natVals (plP nu (ask nu (says P A)) (4 * q))) ∧ Still w wr) (fun v i wr => 5000 - (intOf i).toNat)
  case atStart => exact ⟨0, by omega, rfl, World.ownsRow_nil _ _ _ _, Fr.refl _ _⟩
  case round =>
    obtain ⟨q, hq, rfl, own, hf⟩ := hrel
    have hp := (unhide HH).still hf
    have c1 := hp.hp.c1
    have s := unhide HS
    by_cases hlt : q < qa nu
    · obtain ⟨r0, r1⟩ := s.wd (aw nu + q) (by omega)
      have c0 := hp.hp.c0; have c9 := hp.hp.c9
      have LD := fun p => hp.reads p (aw nu + q) (by omega)
      have e4 : (4 * (q : Int)) / 4 = q := by omega
      have hc4 : (4 * (q : Int) < nu) = True := by simp; omega
      have e2 : ((aw nu + q : Nat) : Int) = (aw nu : Int) + (q : Int) := by omega
      obtain ⟨x, hx⟩ : ∃ x : Nat, says P A (aw nu + q) = x := ⟨(says P A (aw nu + q)).toNat, by omega⟩
      simp only [hx, e2] at LD
      have HLD := @hide _ LD; have HX := hide (And.intro own (And.intro hf hx))
      clear LD own hf hp s hx r0 r1
      by_cases hx0 : x = 0
      · have hx0' : ((x : Int) == 0) = true := by simp; exact hx0
        go_wp2_with fail
        refine region_tailP 12 (by kernel_rfl) (by kernel_rfl) ?_
        simp only [List.take_succ_cons, List.take_zero, List.drop_succ_cons, List.drop_zero]
        repeat (go_big_quiet_step (first | (go_at_call 36; exact Calls.quiet_of_same (unhide HLD _))))
        refine wpQuiet_nil ?_
        rintro _ ⟨nq, rfl⟩
        clear HLD
        go_wp2
        obtain ⟨own, hf, hx⟩ := unhide HX
        have z : says P A (aw nu + q) = 0 := by rw [hx, hx0]; rfl
        have pz : plP nu (ask nu (says P A)) (4 * (q + 1)) = plP nu (ask nu (says P A)) (4 * q) := by
          rw [show 4 * (q + 1) = 4 * q + 3 + 1 by omega, plP_zero (ask_word z (by omega) hlt), plP_zero (n := 4 * q + 2) (ask_word z (by omega) hlt), plP_zero (n := 4 * q + 1) (ask_word z (by omega) hlt), plP_zero (n := 4 * q) (ask_word z (j := 0) (by omega) hlt)]
        refine ⟨⟨q + 1, by omega, by go_num, ?_, hf.drewN nq⟩, by simp [intOf]; omega⟩
        rw [pz]
        exact owns_same own (fun k hk => rfl)
      · have hx0' : ((x : Int) == 0) = false := by simp; exact hx0
        go_wp2_with fail
        refine region_tailP 12 (by kernel_rfl) (by kernel_rfl) ?_
        simp only [List.take_succ_cons, List.take_zero, List.drop_succ_cons, List.drop_zero]
        repeat (go_big_quiet_step (first | (go_at_call 36; exact Calls.quiet_of_same (unhide HLD _))))
        refine wpQuiet_nil ?_
        rintro _ ⟨nq, rfl⟩
        clear HLD c0 c9
        obtain ⟨M, hM⟩ : ∃ M, min (4 * q + 4) nu = M := ⟨_, rfl⟩
        have hmin : min (4 * (q : Int) + 4) nu = M := by omega
        have hM1 : 4 * q ≤ M ∧ M ≤ nu ∧ M ≤ 4 * q + 4 := by omega
        go_wp2_with fail
        clear e4 e2 hx0' hx0
        go_loopw [3, 5] (fun v i wr => ∃ m : Nat, 4 * q ≤ m ∧ m ≤ M ∧ i = .int .i64 m ∧ wr.ownsRow w.heap.size 3 1 v (plP nu (ask nu (says P A)) m).length (natVals (plP nu (ask nu (says P A)) m)) ∧ Still w wr) (fun v i wr => 5000 - (intOf i).toNat)
        case atStart => exact ⟨4 * q, by omega, by omega, by simp, owns_same (unhide HX).1 (fun k hk => rfl), (unhide HX).2.1.drewN nq⟩
        case round =>
          clear HX c1
          obtain ⟨m, hm1, hm2, rfl, own, hf⟩ := hrel
          have hp := (unhide HH).still hf
          have c1 := hp.hp.c1
          have s := unhide HS
          by_cases hlt2 : m < M
          · obtain ⟨r0, r1⟩ := s.wd (aw nu + m / 4) (by omega)
            have BG := h_begins hp.hp hp.reads m (by omega) r0 r1
            have HBG := hide BG; have HX := hide (And.intro own hf); have HP := hide hp
            clear BG own hf hp r0 r1
            go_wp2_with fail
            refine (unhide HBG).mono ?_
            clear HBG
            rintro e w2 ⟨rfl, D⟩
            have D : Dr _ w2 := D
            by_cases hk : ask nu (says P A) m = 0
            · have hbg : begs nu (ask nu (says P A)) m = false := by unfold begs; simp [hk]
              rw [hbg]
              have HD := hide D
              clear D s
              go_wp2
              obtain ⟨own, hf⟩ := unhide HX
              have hfd := (unhide HD).still
              refine ⟨⟨m + 1, by omega, by omega, by go_num, ?_, hf.trans' hfd (fun _ x => x.elim)⟩, by simp [intOf]; omega⟩
              rw [plP_zero hk]
              exact owns_same own fun k hk => hfd.block k (own.lt k hk).2 (fun x => x)
            · rw [begs_of s.inv hk]
              have hfd := D.still
              obtain ⟨own, hf⟩ := unhide HX
              have own2 : w2.ownsRow w.heap.size 3 1 u3 _ _ := owns_same own fun k hk => hfd.block k (own.lt k hk).2 (fun x => x)
              have PL := h_place hb m (by omega) w2 (by omega) ((unhide HP).still hfd).hp.c10
              have pll := plP_le (nu := nu) (K := ask nu (says P A)) m
              have HOW := hide own2; have HF2 := hide (hf.trans' hfd (fun _ x => x.elim)); have HK := hide hk
              have lw := hf.size
              have lw2 := hfd.size
              generalize hgl : (plP nu (ask nu (says P A)) m).length = len at HOW pll
              generalize hgv : natVals (plP nu (ask nu (says P A)) m) = vals at HOW
              have HGL := hide hgl; have HGV := hide hgv
              clear hgl hgv own2 own hf hfd D s hk
              go_wp2_with (first | (go_at_call 43; refine PL.mono ?_; rintro e w' ⟨rfl, hh⟩; replace hh := hh.symm; subst hh) | (at_builtin; refine wpList_append_own_at _ rfl _ _ 46 rfl w.heap.size 3 i0 (.int .i64 0) 1 8 Tryz.underlying46 (unhide HI).1 (unhide HI).2.1 (unhide HI).2.2.1 (unhide HI).2.2.2 rfl (by decide) _ len vals rfl ((unhide HOW).alloc _) _ 1 1 [.int .i64 ((fi nu : Int) + (m : Int) * 8)] rfl rfl ?c1 ?c2 ?c3 ?c4 ?c5 ?_) | fail)
              case c1 => exact cell_one_new _ _ _
              case c2 => intro q hq; simp at hq; subst hq; rfl
              case c3 => unfold maxLen; omega
              case c4 => omega
              case c5 => simp <;> omega
              intro v' w6 hown hgrow hnil hloc
              have HG := hide (And.intro hown hgrow)
              clear hown hgrow hnil hloc
              go_wp2
              obtain ⟨hown, hgrow⟩ := unhide HG
              have hk := unhide HK
              refine ⟨⟨m + 1, by omega, by omega, by go_num, ?_, ?_⟩, by simp [intOf]; omega⟩
              · rw [plP_one hk]
                have := hown
                rw [← unhide HGL, ← unhide HGV] at this
                simpa [natVals] using this
              · exact ((unhide HF2).alloc _).grown hgrow (fun k hk => .inr ((unhide HOW).lt k hk).1)
          · have : m = M := by omega
            subst this
            have HX := hide (And.intro own hf)
            clear own hf hp s
            go_wp2
            obtain ⟨own, hf⟩ := unhide HX
            refine ⟨⟨q + 1, by omega, by go_num, ?_, hf⟩, by simp [intOf]; omega⟩
            have hpast : plU (ask nu (says P A)) m = plU (ask nu (says P A)) (4 * (q + 1)) := by
              by_cases e : m = 4 * (q + 1)
              · rw [e]
              · have hm : m = nu := by omega
                rw [hm]
                exact (plU_past (fun u hu => ((unhide HS).inv.asks u hu).1) (by omega)).symm
            unfold plP at own ⊢
            rw [← hpast]; exact own
    · have hqq : q = qa nu := by omega
      subst hqq
      have HX := hide (And.intro own hf)
      clear own hf hp s
      go_wp2
      go_ret
      obtain ⟨own, hf⟩ := unhide HX
      refine ⟨_, rfl, ?_, hf⟩
      have hpast : plP nu (ask nu (says P A)) (4 * qa nu) = plP nu (ask nu (says P A)) nu := by
        unfold plP
        rw [plU_past (fun u hu => ((unhide HS).inv.asks u hu).1) (by omega)]
      rw [hpast, plP_len] at own
      exact own
end
end Go.Proofs.YtdgobaknbjlahaaGreatDoor
