/- Joined: GHs Rh Rs GLq. -/
import Derived.Maps.AppendAt
import Derived.Test.YtflnaiijdpihcaaGreatDoorP09
import Derived.Test.YtflnaiijdpihcaaGreatDoorP10
import Derived.Test.YtflnaiijdpihcaaGreatDoorP13
import Derived.Test.YtflnaiijdpihcaaGreatDoorP15
namespace Go.Proofs.YtflnaiijdpihcaaGreatDoor
open Go.RowKit

section
def plU (K : Nat → Nat) : Nat → List Nat
  | 0 => []
  | n + 1 => plU K n ++ (if K n = 0 then [] else [n])
def plP (nu : Nat) (K : Nat → Nat) (n : Nat) : List Nat := (plU K n).map fun u => fi nu + u * 8

section
variable {nu sz : Nat} {K : Nat → Nat}
theorem plU_zero {n : Nat} (h : K n = 0) : plU K (n + 1) = plU K n := by simp [plU, h]
theorem plU_one {n : Nat} (h : K n ≠ 0) : plU K (n + 1) = plU K n ++ [n] := by simp [plU, h]
theorem plU_past {nu : Nat} (h : ∀ u, K u ≠ 0 → u < nu) {n : Nat} (hn : nu ≤ n) : plU K n = plU K nu := by
  obtain ⟨d, rfl⟩ : ∃ d, n = nu + d := ⟨n - nu, by omega⟩
  clear hn
  induction d with
  | zero => rfl
  | succ d ih => rw [← Nat.add_assoc, plU_zero (Classical.byContradiction fun e => by have := h _ e; omega), ih]
theorem plU_len (n : Nat) : (plU K n).length = sumTo (fun u => if K u = 0 then 0 else 1) n := by
  induction n with
  | zero => rfl
  | succ n ih =>
    simp only [plU, sumTo, List.length_append, ih]
    split <;> simp
theorem plU_mem {n u : Nat} : u ∈ plU K n ↔ u < n ∧ K u ≠ 0 := by
  induction n with
  | zero => simp [plU]
  | succ n ih =>
    simp only [plU, List.mem_append, ih]
    by_cases h : K n = 0
    · simp only [h, if_true, List.not_mem_nil, or_false]
      constructor
      · rintro ⟨h1, h2⟩; exact ⟨by omega, h2⟩
      · rintro ⟨h1, h2⟩; exact ⟨Nat.lt_of_le_of_ne (by omega) (fun e => h2 (e ▸ h)), h2⟩
    · simp only [h, if_false, List.mem_singleton]
      constructor
      · rintro (⟨h1, h2⟩ | rfl)
        · exact ⟨by omega, h2⟩
        · exact ⟨by omega, h⟩
      · rintro ⟨h1, h2⟩
        by_cases e : u = n
        · exact .inr e
        · exact .inl ⟨by omega, h2⟩
theorem plU_rise (n : Nat) : (plU K n).Pairwise (· < ·) := by
  induction n with
  | zero => simp [plU]
  | succ n ih =>
    simp only [plU]
    rw [List.pairwise_append]
    refine ⟨ih, by split <;> simp, fun a ha c hc => ?_⟩
    split at hc
    · simp at hc
    · simp at hc
      subst hc
      exact (plU_mem.1 ha).1
theorem plP_len (n : Nat) : (plP nu K n).length = sumTo (fun u => if K u = 0 then 0 else 1) n := by simp [plP, plU_len]
theorem plP_one {n : Nat} (h : K n ≠ 0) : plP nu K (n + 1) = plP nu K n ++ [fi nu + n * 8] := by simp [plP, plU_one h]
theorem plP_zero {n : Nat} (h : K n = 0) : plP nu K (n + 1) = plP nu K n := by simp [plP, plU_zero h]
theorem plP_le (n : Nat) : (plP nu K n).length ≤ n := by
  rw [plP_len]
  have : sumTo (fun u => if K u = 0 then 0 else 1) n ≤ sumTo (fun _ => 1) n := sumTo_le fun u _ => by split <;> omega
  rwa [sumTo_one] at this
end

theorem ask_word {nu : Nat} {f : Nat → Int} {q j : Nat} (h : f (aw nu + q) = 0) (hj : j < 4) (hq : q < qa nu) : ask nu f (4 * q + j) = 0 := by
  rw [ask_of (by omega), show (4 * q + j) / 4 = q by omega, h]
  simp [dig]

section
variable {nu sz : Nat} {w w' : World} {hb sb b : Nat} {T : Tay} {A : Ab} {P : List (Int × Int)}

set_option maxRecDepth 20000 in
set_option maxHeartbeats 4000000 in
theorem h_pieces (h : Hp nu sz w hb sb b T A P) (s : HpS nu (says P A)) : Calls Tryz.prog 22 #[ptr hb] w fun e w' => ∃ v, e = .returned v ∧ w'.ownsRow w.heap.size 3 1 v (cnt nu (ask nu (says P A))) (natVals (plP nu (ask nu (says P A)) nu)) ∧ Still w w' := by
  have hi := info3
  obtain ⟨i0, hi0⟩ : ∃ i, Tryz.prog.info? 3 = some i := by
    cases h : Tryz.prog.info? 3 with
    | none => rw [h] at hi; simp at hi
    | some i => exact ⟨i, rfl⟩
  rw [hi0] at hi
  simp only [Option.map_some, Option.some.injEq, Prod.mk.injEq] at hi
  have HI := hide (And.intro hi0 hi)
  clear hi hi0
  obtain ⟨g1, g2, g3, g4, g5, g6⟩ := h.hp.geo.b
  have HH := hide h; have HS := hide s
  clear h s
  go_enter Tryz.func22, Tryz.ntmps22
  go_wp2_with fail
  go_loopw [3, 4] (fun v i wr => ∃ q : Nat, q ≤ qa nu ∧ i = .int .i64 (4 * q) ∧ wr.ownsRow w.heap.size 3 1 v (plP nu (ask nu (says P A)) (4 * q)).length (natVals (plP nu (ask nu (says P A)) (4 * q))) ∧ Still w wr) (fun v i wr => 5000 - (intOf i).toNat)
  case atStart => exact ⟨0, by omega, rfl, World.ownsRow_nil _ _ _ _, Fr.refl _ _⟩
  case round =>
    obtain ⟨q, hq, rfl, own, hf⟩ := hrel
    have hp := (unhide HH).still hf
    have c1 := hp.hp.c1
    have s := unhide HS
    by_cases hlt : q < qa nu
    · obtain ⟨r0, r1⟩ := s.wd (aw nu + q) (by omega)
      have c0 := hp.hp.c0; have c9 := hp.hp.c9
      have LD := fun p => hp.reads p (aw nu + q) (by omega)
      have e4 : (4 * (q : Int)) / 4 = q := by omega
      have hc4 : (4 * (q : Int) < nu) = True := by simp; omega
      have e2 : ((aw nu + q : Nat) : Int) = (aw nu : Int) + (q : Int) := by omega
      obtain ⟨x, hx⟩ : ∃ x : Nat, says P A (aw nu + q) = x := ⟨(says P A (aw nu + q)).toNat, by omega⟩
      simp only [hx, e2] at LD
      have HLD := @hide _ LD; have HX := hide (And.intro own (And.intro hf hx))
      clear LD own hf hp s hx r0 r1
      by_cases hx0 : x = 0
      · have hx0' : ((x : Int) == 0) = true := by simp; exact hx0
        go_wp2_with fail
        refine region_tailP 12 (by kernel_rfl) (by kernel_rfl) ?_
        simp only [List.take_succ_cons, List.take_zero, List.drop_succ_cons, List.drop_zero]
        repeat (go_big_quiet_step (first | (go_at_call 62; exact Calls.quiet_of_same (unhide HLD _))))
        refine wpQuiet_nil ?_
        rintro _ ⟨nq, rfl⟩
        clear HLD
        go_wp2
        obtain ⟨own, hf, hx⟩ := unhide HX
        have z : says P A (aw nu + q) = 0 := by rw [hx, hx0]; rfl
        have pz : plP nu (ask nu (says P A)) (4 * (q + 1)) = plP nu (ask nu (says P A)) (4 * q) := by
          rw [show 4 * (q + 1) = 4 * q + 3 + 1 by omega, plP_zero (ask_word z (by omega) hlt), plP_zero (n := 4 * q + 2) (ask_word z (by omega) hlt), plP_zero (n := 4 * q + 1) (ask_word z (by omega) hlt), plP_zero (n := 4 * q) (ask_word z (j := 0) (by omega) hlt)]
        refine ⟨⟨q + 1, by omega, by go_num, ?_, hf.drewN nq⟩, by simp [intOf]; omega⟩
        rw [pz]
        exact owns_same own (fun k hk => rfl)
      · have hx0' : ((x : Int) == 0) = false := by simp; exact hx0
        go_wp2_with fail
        refine region_tailP 12 (by kernel_rfl) (by kernel_rfl) ?_
        simp only [List.take_succ_cons, List.take_zero, List.drop_succ_cons, List.drop_zero]
        repeat (go_big_quiet_step (first | (go_at_call 62; exact Calls.quiet_of_same (unhide HLD _))))
        refine wpQuiet_nil ?_
        rintro _ ⟨nq, rfl⟩
        clear HLD c0 c9
        obtain ⟨M, hM⟩ : ∃ M, min (4 * q + 4) nu = M := ⟨_, rfl⟩
        have hmin : min (4 * (q : Int) + 4) nu = M := by omega
        have hM1 : 4 * q ≤ M ∧ M ≤ nu ∧ M ≤ 4 * q + 4 := by omega
        go_wp2_with fail
        clear e4 e2 hx0' hx0
        go_loopw [3, 5] (fun v i wr => ∃ m : Nat, 4 * q ≤ m ∧ m ≤ M ∧ i = .int .i64 m ∧ wr.ownsRow w.heap.size 3 1 v (plP nu (ask nu (says P A)) m).length (natVals (plP nu (ask nu (says P A)) m)) ∧ Still w wr) (fun v i wr => 5000 - (intOf i).toNat)
        case atStart => exact ⟨4 * q, by omega, by omega, by simp, owns_same (unhide HX).1 (fun k hk => rfl), (unhide HX).2.1.drewN nq⟩
        case round =>
          clear HX c1
          obtain ⟨m, hm1, hm2, rfl, own, hf⟩ := hrel
          have hp := (unhide HH).still hf
          have c1 := hp.hp.c1
          have s := unhide HS
          by_cases hlt2 : m < M
          · obtain ⟨r0, r1⟩ := s.wd (aw nu + m / 4) (by omega)
            have BG := h_begins hp.hp hp.reads m (by omega) r0 r1
            have HBG := hide BG; have HX := hide (And.intro own hf); have HP := hide hp
            clear BG own hf hp r0 r1
            go_wp2_with fail
            refine (unhide HBG).mono ?_
            clear HBG
            rintro e w2 ⟨rfl, D⟩
            have D : Dr _ w2 := D
            by_cases hk : ask nu (says P A) m = 0
            · have hbg : begs nu (ask nu (says P A)) m = false := by unfold begs; simp [hk]
              rw [hbg]
              have HD := hide D
              clear D s
              go_wp2
              obtain ⟨own, hf⟩ := unhide HX
              have hfd := (unhide HD).still
              refine ⟨⟨m + 1, by omega, by omega, by go_num, ?_, hf.trans' hfd (fun _ x => x.elim)⟩, by simp [intOf]; omega⟩
              rw [plP_zero hk]
              exact owns_same own fun k hk => hfd.block k (own.lt k hk).2 (fun x => x)
            · rw [begs_of s.inv hk]
              have hfd := D.still
              obtain ⟨own, hf⟩ := unhide HX
              have own2 : w2.ownsRow w.heap.size 3 1 u3 _ _ := owns_same own fun k hk => hfd.block k (own.lt k hk).2 (fun x => x)
              have PL := h_place hb m (by omega) w2 (by omega) ((unhide HP).still hfd).hp.c10
              have pll := plP_le (nu := nu) (K := ask nu (says P A)) m
              have HOW := hide own2; have HF2 := hide (hf.trans' hfd (fun _ x => x.elim)); have HK := hide hk
              have lw := hf.size
              have lw2 := hfd.size
              generalize hgl : (plP nu (ask nu (says P A)) m).length = len at HOW pll
              generalize hgv : natVals (plP nu (ask nu (says P A)) m) = vals at HOW
              have HGL := hide hgl; have HGV := hide hgv
              clear hgl hgv own2 own hf hfd D s hk
              go_wp2_with (first | (go_at_call 68; refine PL.mono ?_; rintro e w' ⟨rfl, hh⟩; replace hh := hh.symm; subst hh) | (at_builtin; refine wpList_append_own_at _ rfl _ _ 46 rfl w.heap.size 3 i0 (.int .i64 0) 1 8 Tryz.underlying46 (unhide HI).1 (unhide HI).2.1 (unhide HI).2.2.1 (unhide HI).2.2.2 rfl (by decide) _ len vals rfl ((unhide HOW).alloc _) _ 1 1 [.int .i64 ((fi nu : Int) + (m : Int) * 8)] rfl rfl ?c1 ?c2 ?c3 ?c4 ?c5 ?_) | fail)
              case c1 => exact cell_one_new _ _ _
              case c2 => intro q hq; simp at hq; subst hq; rfl
              case c3 => unfold maxLen; omega
              case c4 => omega
              case c5 => simp <;> omega
              intro v' w6 hown hgrow hnil hloc
              have HG := hide (And.intro hown hgrow)
              clear hown hgrow hnil hloc
              go_wp2
              obtain ⟨hown, hgrow⟩ := unhide HG
              have hk := unhide HK
              refine ⟨⟨m + 1, by omega, by omega, by go_num, ?_, ?_⟩, by simp [intOf]; omega⟩
              · rw [plP_one hk]
                have := hown
                rw [← unhide HGL, ← unhide HGV] at this
                simpa [natVals] using this
              · exact ((unhide HF2).alloc _).grown hgrow (fun k hk => .inr ((unhide HOW).lt k hk).1)
          · have : m = M := by omega
            subst this
            have HX := hide (And.intro own hf)
            clear own hf hp s
            go_wp2
            obtain ⟨own, hf⟩ := unhide HX
            refine ⟨⟨q + 1, by omega, by go_num, ?_, hf⟩, by simp [intOf]; omega⟩
            have hpast : plU (ask nu (says P A)) m = plU (ask nu (says P A)) (4 * (q + 1)) := by
              by_cases e : m = 4 * (q + 1)
              · rw [e]
              · have hm : m = nu := by omega
                rw [hm]
                exact (plU_past (fun u hu => ((unhide HS).inv.asks u hu).1) (by omega)).symm
            unfold plP at own ⊢
            rw [← hpast]; exact own
    · have hqq : q = qa nu := by omega
      subst hqq
      have HX := hide (And.intro own hf)
      clear own hf hp s
      go_wp2
      go_ret
      obtain ⟨own, hf⟩ := unhide HX
      refine ⟨_, rfl, ?_, hf⟩
      have hpast : plP nu (ask nu (says P A)) (4 * qa nu) = plP nu (ask nu (says P A)) nu := by
        unfold plP
        rw [plU_past (fun u hu => ((unhide HS).inv.asks u hu).1) (by omega)]
      rw [hpast, plP_len] at own
      exact own
end
end

section
theorem chP_get {nu : Nat} : ∀ {fr : Bool} {n : Nat} {us : List Nat} {m : Nat} {p : Prt}, (chP nu fr n us)[m]? = some p → ∃ x, us[m]? = some x ∧ p.at_ = ((fi nu + 8 * x : Nat) : Int)
  | _, _, [], _, _, h => by simp [chP] at h
  | fr, n, u :: us, 0, p, h => by simp [chP] at h; exact ⟨u, rfl, by rw [← h]; rfl⟩
  | fr, n, u :: us, m + 1, p, h => by
    obtain ⟨x, h1, h2⟩ := chP_get (us := us) (m := m) (p := p) (by simpa [chP] using h)
    exact ⟨x, by simpa using h1, h2⟩

section
variable {nu sz : Nat} {w w' w0 : World} {hb sb b : Nat} {T : Tay} {A : Ab} {P : List (Int × Int)} {u n k : Nat} {us : List Nat} {wd : Nat → Nat}

def plcs (nu : Nat) (us : List Nat) : List Nat := us.map fun u => fi nu + 8 * u

set_option maxRecDepth 20000 in
set_option maxHeartbeats 4000000 in
theorem r_pieces (h : Hp nu sz w hb sb b T A P) (s : HpS nu (says P A)) (r : RecS nu sz (says P A) u us n k wd) :
    Calls Tryz.prog 21 #[ptr sb, ptr hb, .int .i64 (fi nu + 8 * u : Nat)] w fun e w' => ∃ v, e = .returned v ∧ w'.ownsRow w.heap.size 3 1 v (us.length + 1) (natVals (plcs nu (u :: us))) ∧ Still w w' := by
  have hi := info3
  obtain ⟨i0, hi0⟩ : ∃ i, Tryz.prog.info? 3 = some i := by
    cases h : Tryz.prog.info? 3 with
    | none => rw [h] at hi; simp at hi
    | some i => exact ⟨i, rfl⟩
  rw [hi0] at hi
  simp only [Option.map_some, Option.some.injEq, Prod.mk.injEq] at hi
  have HI := hide (And.intro hi0 hi)
  clear hi hi0
  have PS := r_parts h s r.ch r.len r.hk r.k1 (by have := r.k2; omega)
  have hl := r.len
  have HPS := hide PS
  clear PS h s r
  generalize ((fi nu + 8 * u : Nat) : Int) = p0 at *
  obtain ⟨L, hL⟩ : ∃ L, us.length + 1 = L := ⟨_, rfl⟩
  have hL16 : L ≤ 17 := by omega
  rw [hL] at HPS ⊢
  have HL := hide hL
  clear hL hl
  go_enter Tryz.func21, Tryz.ntmps21
  go_wp2_with fail
  refine (unhide HPS).mono ?_
  clear HPS
  rintro e w1 ⟨g, cap, rfl, pr, f1⟩
  have HX := hide (And.intro pr f1)
  clear pr f1
  go_wp2_with fail
  go_loopw [7, 15] (fun v iv wr => ∃ m : Nat, m ≤ L ∧ iv = .int .i64 m ∧ wr.ownsRow w1.heap.size 3 1 v m (natVals ((plcs nu (u :: us)).take m)) ∧ Still w1 wr) (fun v iv wr => L - (intOf iv).toNat)
  case atStart => exact ⟨0, by omega, rfl, World.ownsRow_nil _ _ _ _, Fr.refl _ _⟩
  case round =>
    obtain ⟨m, hm, rfl, own, fq⟩ := hrel
    generalize wr = wq at *
    clear wr
    by_cases hlt : m < L
    · have hlt' : ((m : Int) < L) = True := by simp; omega
      have prq := (unhide HX).1.still fq
      have hlen : (chP nu true n (u :: us)).length = L := by rw [chP_len]; exact unhide HL
      obtain ⟨p, hp⟩ : ∃ p, (chP nu true n (u :: us))[m]? = some p := ⟨_, List.getElem?_eq_getElem (by rw [hlen]; exact hlt)⟩
      obtain ⟨x, hx, hat⟩ := chP_get hp
      obtain ⟨c0, c1, c2, c3⟩ := prq.cells hp
      rw [hat] at c0
      have HXX := hide (And.intro own (And.intro fq hx))
      obtain ⟨W, hW⟩ : ∃ W, wq.alloc (.cells #[.int .i64 (fi nu + 8 * x : Nat), .int .u64 (kdN p.fr), .int .i64 p.n, .int .i64 p.nx] 101) = W := ⟨_, rfl⟩
      have fW : Still wq W := hW ▸ (Fr.refl _ wq).alloc _
      have zW : W.heap.size = wq.heap.size + 1 := by rw [← hW]; simp
      have b0 : W.cell? ⟨wq.heap.size, 0, none⟩ = some (.int .i64 (fi nu + 8 * x : Nat)) := cell_of_obj (hW ▸ heap_alloc_new wq _) 0
      have ownW : W.ownsRow w1.heap.size 3 1 u7 m _ := owns_same own fun k hk => fW.block k (own.lt k hk).2 (fun x => x)
      have lw := fq.size
      have HW := hide hW; have HOW := hide ownW; have HFW := hide fW
      clear hW fW ownW own fq hx prq hp hat hlen
      generalize hpx : ((fi nu + 8 * x : Nat) : Int) = px at *
      have HPX := hide hpx
      clear hpx
      generalize p.fr = pf at *
      generalize p.n = pn at *
      generalize p.nx = px2 at *
      go_upto_region 5 with fail
      rw [unhide HW]
      clear HW c0 c1 c2 c3
      generalize hgv : natVals ((plcs nu (u :: us)).take m) = vals at HOW
      have HGV := hide hgv
      clear hgv
      go_wp2_with (first | (at_builtin; refine wpList_append_own_at _ rfl _ _ 46 rfl w1.heap.size 3 i0 (.int .i64 0) 1 8 Tryz.underlying46 (unhide HI).1 (unhide HI).2.1 (unhide HI).2.2.1 (unhide HI).2.2.2 rfl (by decide) _ m vals rfl ((unhide HOW).alloc _) _ 1 1 [.int .i64 px] rfl rfl ?c1 ?c2 ?c3 ?c4 ?c5 ?_) | fail)
      case c1 => have := cell_one_new W (.int .i64 px) 3; rw [zW] at this; exact this
      case c2 => intro q hq; simp at hq; subst hq; rfl
      case c3 => unfold maxLen; omega
      case c4 => omega
      case c5 => simp <;> omega
      intro v' w6 hown hgrow hnil hloc
      have HG := hide (And.intro hown hgrow)
      clear hown hgrow hnil hloc
      go_wp2
      obtain ⟨hown, hgrow⟩ := unhide HG
      obtain ⟨own, fq, hx⟩ := unhide HXX
      refine ⟨⟨m + 1, by omega, by go_num, ?_, ?_⟩, by simp [intOf]; omega⟩
      · have e : (plcs nu (u :: us)).take (m + 1) = (plcs nu (u :: us)).take m ++ [fi nu + 8 * x] := by
          rw [List.take_add_one]
          have : (plcs nu (u :: us))[m]? = some (fi nu + 8 * x) := by unfold plcs; rw [List.getElem?_map, hx]; rfl
          rw [this]; rfl
        rw [e]
        have e2 : natVals ((plcs nu (u :: us)).take m ++ [fi nu + 8 * x]) = vals ++ [.int .i64 px] := by
          rw [← unhide HGV, ← unhide HPX]; simp [natVals]
        rw [e2]; exact hown
      · exact ((fq.trans' (unhide HFW) (fun _ x => x.elim)).alloc _).grown hgrow (fun k hk => .inr ((unhide HOW).lt k hk).1)
    · have hq : m = L := by omega
      subst hq
      have hlt' : ((m : Int) < m) = False := by simp
      have HXX := hide (And.intro own fq)
      clear own fq
      go_wp2
      go_ret
      obtain ⟨own, fq⟩ := unhide HXX
      have f1 := (unhide HX).2
      have et : (plcs nu (u :: us)).take m = plcs nu (u :: us) := List.take_of_length_le (by unfold plcs; have := unhide HL; simp; omega)
      rw [et] at own
      refine ⟨_, rfl, ⟨own.1, ?_⟩, f1.trans' fq (fun _ x => x.elim)⟩
      rcases own.2 with e | ⟨g', cap', cur, e, h1, h2⟩
      · exact .inl e
      · exact .inr ⟨g', cap', cur, e, Nat.le_trans f1.size h1, h2⟩

def clr (K : Nat → Nat) (l : List Nat) : Nat → Nat := fun v => if v ∈ l then 0 else K v
theorem clr_nil (K : Nat → Nat) : clr K [] = K := by funext v; simp [clr]
theorem clr_snoc (K : Nat → Nat) (l : List Nat) (x : Nat) : setK (clr K l) x 0 = clr K (l ++ [x]) := by
  funext v
  unfold setK clr
  by_cases h1 : v = x
  · simp [h1]
  · by_cases h2 : v ∈ l
    · simp [h1, h2]
    · simp [h1, h2]

structure Dropped (nu : Nat) (f : Nat → Int) (u : Nat) (us : List Nat) (g : Nat → Int) : Prop where
  st : HpS nu g
  ak : ask nu g = clr (ask nu f) (u :: us)
  keep : ∀ i, fi nu ≤ i → i ≠ fi nu + 8 * u → g i = f i

theorem chain_tkn {f : Nat → Int} : ∀ {fr : Bool} {n : Nat} {us : List Nat} {m x : Nat}, Chain nu sz f fr n us → us[m]? = some x → ask nu f x ≠ 0
  | _, _, [], _, _, h, _ => h.elim
  | fr, n, u :: us, 0, x, h, hx => by
    simp at hx; subst hx
    rw [h.2.1.1]; have := sz_b fr n; omega
  | fr, n, u :: us, m + 1, x, h, hx => by
    rcases h.2.2 with e | e
    · subst e; simp at hx
    · exact chain_tkn e (by simpa using hx)

set_option maxRecDepth 20000 in
set_option maxHeartbeats 4000000 in
theorem r_drop1 (h : Hp nu sz w hb sb b T A P) (s : HpS nu (says P A)) (hm : P.length + 200 ≤ 6144) (r : RecS nu sz (says P A) u us n 1 wd) :
    Calls Tryz.prog 14 #[ptr sb, ptr hb, .int .i64 (fi nu + 8 * u : Nat)] w fun e w' => e = .returned (.bool true) ∧ ∃ g, To sz w sb b T A w' g (P.length + 200) ∧ Dropped nu (says P A) u us g := by
  have hi := r.hi
  obtain ⟨g1, g2, g3, g4, g5, g6⟩ := h.hp.geo.b
  have BG := r.begins h
  have MB : ∀ w1, Still w w1 → Calls Tryz.prog 60 #[ptr hb, ptV (fi nu + 8 * u : Nat) true n (8 * nxq nu us : Nat)] w1 fun e w' => e = .returned (.tuple #[]) ∧ Still w1 w' := fun w1 f1 => by
    have := r_must (h.still f1) s u true n (8 * nxq nu us : Nat) r.ch.2.1
    rw [show ((fi nu : Int) + u * 8) = ((fi nu + 8 * u : Nat) : Int) by omega] at this
    exact this
  have LD : ∀ w1, Still w w1 → Calls Tryz.prog 62 #[ptr sb, .int .i64 (((fi nu + 8 * u : Nat) : Int) + 1)] w1 fun e w' => e = .returned (u64 1) ∧ w' = w1 := fun w1 f1 => by
    have := (h.still f1).load (fi nu + 8 * u + 1) (by omega)
    rw [r.hk] at this
    exact this
  have PT : ∀ w1, Still w w1 → Calls Tryz.prog 63 #[ptr sb, ptr hb, .int .i64 (fi nu + 8 * u : Nat)] w1 fun e w' => ∃ g cap, e = .returned (.slice (some ⟨g, 0, none⟩) (us.length + 1) cap) ∧ PR w' w1.heap.size (.slice (some ⟨g, 0, none⟩) (us.length + 1) cap) (chP nu true n (u :: us)) ∧ Still w1 w' := fun w1 f1 =>
    r_parts (h.still f1) s r.ch r.len r.hk r.k1 (by omega)
  have PU : ∀ w1, Still w w1 → Calls Tryz.prog 56 #[ptr sb, .int .i64 (fi nu + 8 * u : Nat), u64 0] w1 fun e w' => e = .returned (.tuple #[]) ∧ To sz w1 sb b T A w' (upd (says P A) (fi nu + 8 * u) 0) (P.length + 1) := fun w1 f1 =>
    (h.still f1).put (by omega) (fi nu + 8 * u) (by omega) 0
  have hl := r.len
  have HBG := hide BG; have HMB := @hide _ MB; have HLD := @hide _ LD; have HPT := @hide _ PT; have HPU := @hide _ PU
  have HH := hide h; have HS := hide s; have HR := hide r
  have hp4 : fi nu + 8 * u ≤ 40000 := by omega
  have HGG := hide (And.intro g2 g4)
  unfold ptV at HBG HMB
  clear BG MB LD PT PU h s r g1 g2 g3 g4 g5 g6 hi
  obtain ⟨p, hp⟩ : ∃ p, fi nu + 8 * u = p := ⟨_, rfl⟩
  obtain ⟨nx, hnx⟩ : ∃ nx : Int, ((8 * nxq nu us : Nat) : Int) = nx := ⟨_, rfl⟩
  obtain ⟨L, hL⟩ : ∃ L, us.length + 1 = L := ⟨_, rfl⟩
  simp only [hp, hnx, hL] at HBG HMB HLD HPT HPU hp4 ⊢
  have hL16 : L ≤ 17 := by omega
  have HE := hide (And.intro hp (And.intro hnx hL))
  clear hp hnx hL hl
  generalize kdN true = kd at *
  go_enter Tryz.func14, Tryz.ntmps14
  go_wp2_with fail
  refine (unhide HBG).mono ?_
  clear HBG
  rintro e w1 ⟨rfl, f1⟩
  have M1 := hide (unhide HMB w1 f1); have HF1 := hide f1
  clear f1 HMB
  go_wp2_with fail
  refine (unhide M1).mono ?_
  clear M1
  rintro e w2 ⟨rfl, f2⟩
  have f02 := (unhide HF1).trans' f2 (fun _ x => x.elim)
  have L2 := hide (unhide HLD w2 f02); have P2 := hide (unhide HPT w2 f02); have HF2 := hide f02
  clear f2 f02 HF1 HLD HPT
  go_wp2_with (first | (go_at_call 62; refine (unhide L2).mono ?_; rintro e w' ⟨rfl, hh⟩; replace hh := hh.symm; subst hh) | fail)
  refine (unhide P2).mono ?_
  clear P2 L2
  rintro e w3 ⟨g, cap, rfl, pr3, f3⟩
  have f03 := (unhide HF2).trans' f3 (fun _ x => x.elim)
  have U3 := hide (unhide HPU w3 f03); have HF3 := hide (And.intro f03 (And.intro pr3 f3))
  clear f3 f03 pr3 HPU
  go_wp2_with fail
  refine (unhide U3).mono ?_
  clear U3
  rintro e w4 ⟨rfl, T4, P4, o4, eg4, el4⟩
  obtain ⟨f03, pr3, f3⟩ := unhide HF3
  have h3 := (unhide HH).still f03
  have hlt3 : ∀ k, (Value.slice (some ⟨g, 0, none⟩) L cap).ownBlock = some k → ¬ tfoot sb b T k := fun k hk ht => by
    have h1 := (World.ownsRow.lt pr3 k hk).1
    have h2 := (unhide HH).st.lt k ht
    have h4 := (unhide HF2).size
    omega
  have pr4 := pr3.kept o4.fr hlt3
  obtain ⟨ep, enx, eL⟩ := unhide HE
  have s4 : HpS nu (says P4 A) := (unhide HS).own (fun i hi => by rw [eg4, upd_other _ _ (by omega)])
  have a4 : ask nu (says P4 A) = clr (ask nu (says P A)) ((u :: us).take 0) := by
    rw [List.take_zero, clr_nil]
    exact ask_own (fun i hi => by rw [eg4, upd_other _ _ (by omega)])
  have k4 : ∀ i, fi nu ≤ i → i ≠ p → says P4 A i = says P A i := fun i _ hn => by rw [eg4, upd_other _ _ hn]
  have HH3 := hide h3; have HLT := @hide _ hlt3
  have HX4 := hide (And.intro o4 (And.intro el4 (And.intro s4 (And.intro a4 (And.intro k4 pr4)))))
  have hlen : (chP nu true n (u :: us)).length = L := by rw [chP_len]; exact eL
  have HLN := hide hlen
  have f3s := f3.size
  clear h3 hlt3 o4 el4 s4 a4 k4 pr4 pr3 f3 ep enx eL HF2 hlen eg4 f03
  go_wp2_with fail
  go_loopw [37] (fun iv wr => ∃ (m : Nat) (T' : Tay) (P' : List (Int × Int)), m ≤ L ∧ iv = .int .i64 m ∧ Onx w3 sb b T wr T' sz A P' false ∧ P'.length ≤ P.length + 1 + 9 * m ∧ HpS nu (says P' A) ∧ ask nu (says P' A) = clr (ask nu (says P A)) ((u :: us).take m) ∧ (∀ i, fi nu ≤ i → i ≠ p → says P' A i = says P A i) ∧ PR wr w2.heap.size (.slice (some ⟨g, 0, none⟩) L cap) (chP nu true n (u :: us))) (fun iv wr => L - (intOf iv).toNat)
  case atStart =>
    obtain ⟨o4, el4, s4, a4, k4, pr4⟩ := unhide HX4
    exact ⟨0, T4, P4, by omega, rfl, o4, by omega, s4, a4, k4, pr4⟩
  case round =>
    clear HX4
    obtain ⟨m, T', P', hmL, rfl, o, el, sq, aq, kq, prq⟩ := hrel
    generalize wr = wq at *
    clear wr
    by_cases hlt : m < L
    · have hlt' : ((m : Int) < L) = True := by simp; omega
      obtain ⟨q, hq⟩ : ∃ q, (chP nu true n (u :: us))[m]? = some q := ⟨_, List.getElem?_eq_getElem (by rw [unhide HLN]; exact hlt)⟩
      obtain ⟨x, hx, hat⟩ := chP_get hq
      obtain ⟨c0, c1, c2, c3⟩ := prq.cells hq
      rw [hat] at c0
      have hne : ask nu (says P' A) x ≠ 0 := by
        rw [aq]
        have hnm : x ∉ (u :: us).take m := fun hin => by
          obtain ⟨j, hj⟩ := List.getElem?_of_mem hin
          have hjm : j < m := by
            have := (List.getElem?_eq_some_iff.1 hj).1
            simp at this; omega
          rw [List.getElem?_take, if_pos hjm] at hj
          have hjl := (List.getElem?_eq_some_iff.1 hj).1
          have := (List.getElem?_inj hjl (unhide HR).nd).1 (hj.trans hx.symm)
          omega
        unfold clr
        rw [if_neg hnm]
        exact chain_tkn (unhide HR).ch hx
      obtain ⟨W, hW⟩ : ∃ W, wq.alloc (.cells #[.int .i64 (fi nu + 8 * x : Nat), .int .u64 (kdN q.fr), .int .i64 q.n, .int .i64 q.nx] 101) = W := ⟨_, rfl⟩
      have fW : Still wq W := hW ▸ (Fr.refl _ wq).alloc _
      have b0 : W.cell? ⟨wq.heap.size, 0, none⟩ = some (.int .i64 (fi nu + 8 * x : Nat)) := cell_of_obj (hW ▸ heap_alloc_new wq _) 0
      have hq' := (unhide HH3).call (o.quiet fW)
      have GV := h_give hq' sq (by omega) x hne
      rw [show ((fi nu : Int) + x * 8) = ((fi nu + 8 * x : Nat) : Int) by omega] at GV
      have HGV := hide GV; have HW := hide hW; have HXX := hide (And.intro (o.quiet fW) (And.intro el (And.intro aq (And.intro kq (And.intro (prq.still fW) hx)))))
      clear GV hW fW hq' o el sq aq kq prq hx hat hne hq
      generalize ((fi nu + 8 * x : Nat) : Int) = px at *
      generalize q.fr = pf at *
      generalize q.n = pn at *
      generalize q.nx = px2 at *
      go_upto_region 11 with fail
      rw [unhide HW]
      clear HW c0 c1 c2 c3
      go_wp2_with fail
      refine (unhide HGV).mono ?_
      clear HGV
      rintro e w6 ⟨rfl, g6, ⟨T6, P6, o6, eg6, el6⟩, gv⟩
      have HG6 := hide (And.intro o6 (And.intro eg6 (And.intro el6 gv)))
      clear o6 eg6 el6 gv
      go_wp2
      obtain ⟨o6, eg6, el6, gv⟩ := unhide HG6
      obtain ⟨o, el, aq, kq, prq, hx⟩ := unhide HXX
      subst eg6
      refine ⟨⟨m + 1, T6, P6, by omega, by go_num, o.trans o6, by omega, gv.st, ?_, fun i hi hn => by rw [gv.keep i hi]; exact kq i hi hn, prq.kept o6.fr (fun k hk => o.other (World.ownsRow.lt (unhide HF3).2.1 k hk).2 (unhide HLT k hk))⟩, by simp [intOf]; omega⟩
      rw [gv.ak, aq, clr_snoc, List.take_add_one, hx]; rfl
    · have em : m = L := by omega
      subst em
      have hlt' : ((m : Int) < m) = False := by simp
      have HXX := hide (And.intro o (And.intro el (And.intro sq (And.intro aq kq))))
      clear o el sq aq kq prq
      go_wp2
      go_ret
      obtain ⟨o, el, sq, aq, kq⟩ := unhide HXX
      obtain ⟨ep, enx, eL⟩ := unhide HE
      refine ⟨rfl, says P' A, ⟨T', P', o.after (unhide HF3).1, rfl, by omega⟩, sq, ?_, fun i hi hn => kq i hi (by rw [← ep]; exact hn)⟩
      rw [aq, List.take_of_length_le (by simp; omega)]

set_option maxRecDepth 20000 in
set_option maxHeartbeats 2000000 in
theorem r_drop2 (h : Hp nu sz w hb sb b T A P) (s : HpS nu (says P A)) (hm : P.length < 6144) (r : RecS nu sz (says P A) u us n k wd) (hk : 2 ≤ k) :
    Calls Tryz.prog 14 #[ptr sb, ptr hb, .int .i64 (fi nu + 8 * u : Nat)] w fun e w' => e = .returned (.bool false) ∧ To sz w sb b T A w' (upd (says P A) (fi nu + 8 * u + 1) ((k - 1 : Nat) : Int)) (P.length + 1) := by
  have hi := r.hi
  obtain ⟨g1, g2, g3, g4, g5, g6⟩ := h.hp.geo.b
  have BG := r.begins h
  have MB : ∀ w1, Still w w1 → Calls Tryz.prog 60 #[ptr hb, ptV (fi nu + 8 * u : Nat) true n (8 * nxq nu us : Nat)] w1 fun e w' => e = .returned (.tuple #[]) ∧ Still w1 w' := fun w1 f1 => by
    have := r_must (h.still f1) s u true n (8 * nxq nu us : Nat) r.ch.2.1
    rw [show ((fi nu : Int) + u * 8) = ((fi nu + 8 * u : Nat) : Int) by omega] at this
    exact this
  have LD : ∀ w1, Still w w1 → Calls Tryz.prog 62 #[ptr sb, .int .i64 (((fi nu + 8 * u : Nat) : Int) + 1)] w1 fun e w' => e = .returned (u64 (k : Nat)) ∧ w' = w1 := fun w1 f1 => by
    have := (h.still f1).load (fi nu + 8 * u + 1) (by omega)
    rw [r.hk] at this
    exact this
  have PU : ∀ w1, Still w w1 → Calls Tryz.prog 56 #[ptr sb, .int .i64 (((fi nu + 8 * u : Nat) : Int) + 1), u64 ((k : Int) - 1)] w1 fun e w' => e = .returned (.tuple #[]) ∧ To sz w1 sb b T A w' (upd (says P A) (fi nu + 8 * u + 1) ((k : Int) - 1)) (P.length + 1) := fun w1 f1 =>
    (h.still f1).put hm (fi nu + 8 * u + 1) (by omega) ((k : Int) - 1)
  have k2 := r.k2
  have hkw : IntKind.u64.wrap ((k : Int) - 1) = (k : Int) - 1 := by rw [IntKind.wrap_u64]; omega
  have hk1 : ((1 : Int) < k) = True := by simp; omega
  have HBG := hide BG; have HMB := @hide _ MB; have HLD := @hide _ LD; have HPU := @hide _ PU
  have hp4 : fi nu + 8 * u ≤ 40000 := by omega
  unfold ptV at HBG HMB
  rw [show ((k - 1 : Nat) : Int) = (k : Int) - 1 by omega]
  clear BG MB LD PU h s r g1 g2 g3 g4 g5 g6 hi hm
  generalize fi nu + 8 * u = p at *
  generalize ((8 * nxq nu us : Nat) : Int) = nx at *
  generalize kdN true = kd at *
  go_enter Tryz.func14, Tryz.ntmps14
  go_wp2_with fail
  refine (unhide HBG).mono ?_
  clear HBG
  rintro e w1 ⟨rfl, f1⟩
  have M1 := hide (unhide HMB w1 f1); have HF1 := hide f1
  clear f1 HMB
  go_wp2_with fail
  refine (unhide M1).mono ?_
  clear M1
  rintro e w2 ⟨rfl, f2⟩
  have f02 := (unhide HF1).trans' f2 (fun _ x => x.elim)
  have L2 := hide (unhide HLD w2 f02); have U2 := hide (unhide HPU w2 f02); have HF2 := hide f02
  clear f2 f02 HF1 HLD HPU
  go_wp2_with (first | (go_at_call 62; refine (unhide L2).mono ?_; rintro e w' ⟨rfl, hh⟩; replace hh := hh.symm; subst hh) | fail)
  refine (unhide U2).mono ?_
  clear U2 L2
  rintro e w3 ⟨rfl, t⟩
  have HT := hide (t.after (unhide HF2))
  clear t
  go_wp2
  go_ret
  exact ⟨rfl, unhide HT⟩
end
end

section
structure Rc where
  u : Nat
  us : List Nat
  n : Nat
  k : Nat
  bt : Nat → Nat
def Rc.all (r : Rc) : List Nat := r.u :: r.us
def allU (rs : List Rc) : List Nat := rs.flatMap Rc.all

structure Recs (nu sz : Nat) (f : Nat → Int) (rs : List Rc) : Prop where
  st : HpS nu f
  rc : ∀ r ∈ rs, RecS nu sz f r.u r.us r.n r.k (wordN r.bt r.n) ∧ ∀ i, i < r.n → r.bt i < 256
  nd : (allU rs).Nodup
  cv : ∀ v, ask nu f v ≠ 0 ↔ v ∈ allU rs

def Sam (nu : Nat) (f g : Nat → Int) (v : Nat) : Prop := ask nu g v = ask nu f v ∧ ∀ i, i < ask nu f v → g (fi nu + 8 * v + i) = f (fi nu + 8 * v + i)

theorem chain_same {nu sz : Nat} {f g : Nat → Int} : ∀ {fr : Bool} {n : Nat} {us : List Nat}, Chain nu sz f fr n us → (∀ v ∈ us, Sam nu f g v) → Chain nu sz g fr n us
  | _, _, [], h, _ => h.elim
  | fr, n, u :: us, h, hs => by
    obtain ⟨pa, tk, h2⟩ := h
    obtain ⟨s1, s2⟩ := hs u (by simp)
    have hz := sz_b fr n
    have e0 := s2 0 (by rw [tk.1]; omega)
    rw [Nat.add_zero] at e0
    refine ⟨⟨by rw [e0]; exact pa.w, pa.n4, pa.q6, pa.lo, pa.m8, pa.hi, pa.nx⟩, ⟨by rw [s1]; exact tk.1, tk.2⟩, ?_⟩
    rcases h2 with e | h2
    · exact .inl e
    · exact .inr (chain_same h2 (fun v hv => hs v (by simp [hv])))
theorem data_same {nu sz : Nat} {f g : Nat → Int} {wd : Nat → Nat} : ∀ {fr : Bool} {o n : Nat} {us : List Nat}, Chain nu sz f fr n us → Data nu f wd fr o n us → (∀ v ∈ us, Sam nu f g v) → Data nu g wd fr o n us
  | _, _, _, [], h, _, _ => h.elim
  | fr, o, n, u :: us, h, d, hs => by
    obtain ⟨pa, tk, h2⟩ := h
    obtain ⟨s1, s2⟩ := hs u (by simp)
    refine ⟨fun i hi => ?_, ?_⟩
    · have := s2 (ahd fr + i) (by have := sz_b fr n; rw [tk.1]; omega)
      rw [← Nat.add_assoc] at this
      rw [this]; exact d.1 i hi
    · rcases h2 with e | h2
      · subst e; trivial
      · exact data_same h2 d.2 (fun v hv => hs v (by simp [hv]))
theorem szt (n : Nat) : 2 ≤ szN true n := by unfold szN ahd; simp; omega

theorem RecS.same {nu sz : Nat} {f g : Nat → Int} {u n k : Nat} {us : List Nat} {wd : Nat → Nat} (r : RecS nu sz f u us n k wd) (hs : ∀ v ∈ u :: us, Sam nu f g v) : RecS nu sz g u us n k wd :=
  ⟨chain_same r.ch hs, r.len, by rw [(hs u (by simp)).2 1 (by rw [r.ch.2.1.1]; have := szt n; omega)]; exact r.hk, r.k1, r.k2, data_same r.ch r.da hs, r.nd⟩

theorem HpS.apart {nu : Nat} {f : Nat → Int} (s : HpS nu f) {u v : Nat} (hu : ask nu f u ≠ 0) (hv : ask nu f v ≠ 0) (hne : u ≠ v) : fi nu + 8 * u + ask nu f u ≤ fi nu + 8 * v ∨ fi nu + 8 * v + ask nu f v ≤ fi nu + 8 * u := by
  rcases Nat.lt_or_gt_of_ne hne with h | h
  · have h1 := s.inv.apartB hu hv h
    have h2 := lv_holds (ask nu f u) (s.inv.asks u hu).2.1
    left; omega
  · have h1 := s.inv.apartB hv hu h
    have h2 := lv_holds (ask nu f v) (s.inv.asks v hv).2.1
    right; omega

theorem chain_ask {nu sz : Nat} {f : Nat → Int} : ∀ {fr : Bool} {n : Nat} {us : List Nat}, Chain nu sz f fr n us → ∀ v ∈ us, ask nu f v ≠ 0
  | _, _, [], h, _, _ => h.elim
  | fr, n, u :: us, h, v, hv => by
    obtain ⟨pa, tk, h2⟩ := h
    rcases List.mem_cons.1 hv with e | hv
    · subst e; rw [tk.1]; have := sz_b fr n; omega
    · rcases h2 with e | h2
      · subst e; cases hv
      · exact chain_ask h2 v hv

theorem RecS.setk {nu sz : Nat} {f : Nat → Int} {u n k : Nat} {us : List Nat} {wd : Nat → Nat} (r : RecS nu sz f u us n k wd) (s : HpS nu f) (k' : Nat) (h1 : 1 ≤ k') (h2 : k' < 1000000) : RecS nu sz (upd f (fi nu + 8 * u + 1) (k' : Nat)) u us n k' wd := by
  have own : ∀ i, i < fi nu → upd f (fi nu + 8 * u + 1) (k' : Nat) i = f i := fun i hi => upd_other _ _ (by omega)
  have ea := ask_own own
  have hz := szt n
  obtain ⟨pa, tk, h3⟩ := r.ch
  have hu : ask nu f u ≠ 0 := by rw [tk.1]; omega
  have sm : ∀ v ∈ us, Sam nu f (upd f (fi nu + 8 * u + 1) (k' : Nat)) v := fun v hv => by
    have hv0 : ask nu f v ≠ 0 := chain_ask r.ch v (by simp [hv])
    have hne : u ≠ v := fun e => (List.nodup_cons.1 r.nd).1 (e ▸ hv)
    refine ⟨by rw [ea], fun i hi => upd_other _ _ ?_⟩
    have := s.apart hu hv0 hne
    rw [tk.1] at this
    omega
  have ch : Chain nu sz (upd f (fi nu + 8 * u + 1) (k' : Nat)) true n (u :: us) := by
    refine ⟨⟨by rw [upd_other _ _ (by omega)]; exact pa.w, pa.n4, pa.q6, pa.lo, pa.m8, pa.hi, pa.nx⟩, ⟨by rw [ea]; exact tk.1, tk.2⟩, ?_⟩
    rcases h3 with e | h3
    · exact .inl e
    · exact .inr (chain_same h3 sm)
  refine ⟨ch, r.len, upd_same _ _ _, h1, h2, ⟨fun i hi => ?_, ?_⟩, r.nd⟩
  · rw [upd_other _ _ (by unfold ahd; simp; omega)]; exact r.da.1 i hi
  · rcases h3 with e | h3
    · subst e; trivial
    · exact data_same h3 r.da.2 sm

theorem allU_app (a c : List Rc) : allU (a ++ c) = allU a ++ allU c := by simp [allU]
theorem allU_cons (r : Rc) (c : List Rc) : allU (r :: c) = r.all ++ allU c := by simp [allU]
theorem split_at {rs : List Rc} {j : Nat} {r : Rc} (h : rs[j]? = some r) : ∃ l1 l2, rs = l1 ++ r :: l2 ∧ l1.length = j := by
  have hl := (List.getElem?_eq_some_iff.1 h).1
  refine ⟨rs.take j, rs.drop (j + 1), ?_, by rw [List.length_take]; omega⟩
  have e : rs.drop j = r :: rs.drop (j + 1) := by
    rw [List.drop_eq_getElem_cons hl]
    congr 1
    exact (List.getElem?_eq_some_iff.1 h).2
  rw [← e, List.take_append_drop]

theorem Recs.nil {nu sz : Nat} {f : Nat → Int} (s : HpS nu f) (e : ask nu f = fun _ => 0) : Recs nu sz f [] := ⟨s, by simp, by simp [allU], fun v => by rw [e]; simp [allU]⟩

theorem Recs.made {nu sz : Nat} {f g : Nat → Int} {rs : List Rc} {u n : Nat} {us : List Nat} {bt : Nat → Nat} (R : Recs nu sz f rs) (m : Mde nu f (u :: us) g) (r : RecS nu sz g u us n 1 (wordN bt n)) (hb : ∀ i, i < n → bt i < 256) : Recs nu sz g (rs ++ [⟨u, us, n, 1, bt⟩]) := by
  obtain ⟨xs, f2, t, e, hx, kp⟩ := m.tk
  have new0 : ∀ v ∈ u :: us, ask nu f2 v ≠ 0 := fun v hv => by
    obtain ⟨k, hk⟩ := List.getElem?_of_mem hv
    obtain ⟨x, hxk⟩ : ∃ x, xs[k]? = some x := ⟨_, List.getElem?_eq_getElem (l := xs) (i := k) (by rw [← t.len]; exact (List.getElem?_eq_some_iff.1 hk).1)⟩
    rw [t.is k v x hk hxk]
    have := hx x (List.mem_of_getElem? hxk)
    omega
  have sm : ∀ v, v ∉ u :: us → ask nu f v ≠ 0 → Sam nu f g v := fun v hn h0 => by
    have ea : ask nu f2 v = ask nu f v := t.ak v hn
    have h02 : ask nu f2 v ≠ 0 := by rw [ea]; exact h0
    refine ⟨by rw [e]; exact ea, fun i hi => ?_⟩
    rw [kp _ (fun v' hv' => ?_)]
    · refine t.keep _ (by omega) fun k u' x hk hxk => ?_
      have hu' := List.mem_of_getElem? hk
      have ex := t.is k u' x hk hxk
      have hne : v ≠ u' := fun e => hn (e ▸ hu')
      rcases Nat.lt_or_gt_of_ne hne with h | h
      · have h1 := t.st.inv.apartB h02 (new0 u' hu') h
        have h2 := lv_holds (ask nu f2 v) (t.st.inv.asks v h02).2.1
        rw [ea] at h1 h2
        left; omega
      · have h1 := t.st.inv.apartB (new0 u' hu') h02 h
        rw [ex] at h1
        right; omega
    · have hne : v ≠ v' := fun e => hn (e ▸ hv')
      have := t.st.apart h02 (new0 v' hv') hne
      rw [ea] at this
      omega
  have old : ∀ v ∈ allU rs, v ∉ u :: us ∧ ask nu f v ≠ 0 := fun v hv => by
    have h0 := (R.cv v).2 hv
    exact ⟨fun h => h0 (t.was v h), h0⟩
  refine ⟨m.st, fun r' hr' => ?_, ?_, fun v => ?_⟩
  · rcases List.mem_append.1 hr' with h | h
    · refine ⟨(R.rc r' h).1.same fun v hv => ?_, (R.rc r' h).2⟩
      have := old v (by unfold allU; exact List.mem_flatMap.2 ⟨r', h, hv⟩)
      exact sm v this.1 this.2
    · simp at h; subst h; exact ⟨r, hb⟩
  · rw [allU_app, List.nodup_append]
    refine ⟨R.nd, by simpa [allU, Rc.all] using t.nd, fun a ha c hc => ?_⟩
    have hc' : c ∈ u :: us := by simpa [allU, Rc.all] using hc
    exact fun e => (old a ha).1 (e ▸ hc')
  · rw [allU_app, List.mem_append]
    have hm : v ∈ allU [(⟨u, us, n, 1, bt⟩ : Rc)] ↔ v ∈ u :: us := by simp [allU, Rc.all]
    rw [hm, e]
    by_cases h : v ∈ u :: us
    · exact ⟨fun _ => .inr h, fun _ => new0 v h⟩
    · rw [t.ak v h, R.cv v]
      exact ⟨.inl, fun x => x.elim id (fun y => absurd y h)⟩

theorem Recs.setk {nu sz : Nat} {f : Nat → Int} {rs : List Rc} {j : Nat} {r : Rc} (R : Recs nu sz f rs) (h : rs[j]? = some r) (k' : Nat) (h1 : 1 ≤ k') (h2 : k' < 1000000) : Recs nu sz (upd f (fi nu + 8 * r.u + 1) (k' : Nat)) (rs.set j { r with k := k' }) := by
  obtain ⟨l1, l2, rfl, hl⟩ := split_at h
  have own : ∀ i, i < fi nu → upd f (fi nu + 8 * r.u + 1) (k' : Nat) i = f i := fun i hi => upd_other _ _ (by omega)
  have ea := ask_own own
  have hr := R.rc r (by simp)
  have hu : ask nu f r.u ≠ 0 := (R.cv r.u).2 (by simp [allU_app, allU_cons, Rc.all])
  have es : (l1 ++ r :: l2).set j { r with k := k' } = l1 ++ { r with k := k' } :: l2 := by
    rw [← hl, List.set_append_right _ _ (Nat.le_refl _)]; simp
  have eU : allU (l1 ++ { r with k := k' } :: l2) = allU (l1 ++ r :: l2) := by simp [allU_app, allU_cons, Rc.all]
  have hz := szt r.n
  rw [es]
  refine ⟨R.st.own own, fun r' hr' => ?_, by rw [eU]; exact R.nd, fun v => by rw [eU, ea]; exact R.cv v⟩
  have other : ∀ r' ∈ l1 ++ l2, (∀ v ∈ r'.all, v ∉ r.all) → RecS nu sz (upd f (fi nu + 8 * r.u + 1) (k' : Nat)) r'.u r'.us r'.n r'.k (wordN r'.bt r'.n) ∧ ∀ i, i < r'.n → r'.bt i < 256 := fun r' hm hd => by
    have hm' : r' ∈ l1 ++ r :: l2 := by simp at hm ⊢; rcases hm with h | h; exact .inl h; exact .inr (.inr h)
    obtain ⟨q1, q2⟩ := R.rc r' hm'
    refine ⟨q1.same fun v hv => ⟨by rw [ea], fun i hi => upd_other _ _ ?_⟩, q2⟩
    have hv0 : ask nu f v ≠ 0 := (R.cv v).2 (by unfold allU; exact List.mem_flatMap.2 ⟨r', hm', hv⟩)
    have hne : r.u ≠ v := fun e => hd v hv (by simp [Rc.all, ← e])
    have := R.st.apart hu hv0 hne
    rw [hr.1.ch.2.1.1] at this
    omega
  have nd := R.nd
  rw [allU_app, allU_cons, List.nodup_append, List.nodup_append] at nd
  rcases List.mem_append.1 hr' with h | h
  · exact other r' (by simp [h]) fun v hv hv' => nd.2.2 v (by unfold allU; exact List.mem_flatMap.2 ⟨r', h, hv⟩) v (by simp [hv']) rfl
  · rcases List.mem_cons.1 h with h | h
    · subst h; exact ⟨hr.1.setk R.st k' h1 h2, hr.2⟩
    · exact other r' (by simp [h]) fun v hv hv' => nd.2.1.2.2 v hv' v (by unfold allU; exact List.mem_flatMap.2 ⟨r', h, hv⟩) rfl

theorem Recs.gone {nu sz : Nat} {f g : Nat → Int} {rs : List Rc} {j : Nat} {r : Rc} (R : Recs nu sz f rs) (h : rs[j]? = some r) (d : Dropped nu f r.u r.us g) : Recs nu sz g (rs.eraseIdx j) := by
  obtain ⟨l1, l2, rfl, hl⟩ := split_at h
  have hr := R.rc r (by simp)
  have hu : ask nu f r.u ≠ 0 := (R.cv r.u).2 (by simp [allU_app, allU_cons, Rc.all])
  have es : (l1 ++ r :: l2).eraseIdx j = l1 ++ l2 := by
    rw [← hl, List.eraseIdx_append_of_length_le (Nat.le_refl _)]; simp
  have nd := R.nd
  rw [allU_app, allU_cons, List.nodup_append, List.nodup_append] at nd
  have dis : ∀ v ∈ allU (l1 ++ l2), v ∉ r.all := fun v hv hv' => by
    rw [allU_app] at hv
    rcases List.mem_append.1 hv with h | h
    · exact nd.2.2 v h v (by simp [hv']) rfl
    · exact nd.2.1.2.2 v hv' v h rfl
  have ak : ∀ v, v ∉ r.all → ask nu g v = ask nu f v := fun v hv => by rw [d.ak]; exact if_neg hv
  have ak0 : ∀ v, v ∈ r.all → ask nu g v = 0 := fun v hv => by rw [d.ak]; exact if_pos hv
  rw [es]
  refine ⟨d.st, fun r' hr' => ?_, ?_, fun v => ?_⟩
  · have hm' : r' ∈ l1 ++ r :: l2 := by simp at hr' ⊢; rcases hr' with h | h; exact .inl h; exact .inr (.inr h)
    obtain ⟨q1, q2⟩ := R.rc r' hm'
    refine ⟨q1.same fun v hv => ?_, q2⟩
    have hvn := dis v (by unfold allU; exact List.mem_flatMap.2 ⟨r', hr', hv⟩)
    refine ⟨ak v hvn, fun i hi => d.keep _ (by omega) ?_⟩
    have hv0 : ask nu f v ≠ 0 := (R.cv v).2 (by unfold allU; exact List.mem_flatMap.2 ⟨r', hm', hv⟩)
    have hne : r.u ≠ v := fun e => hvn (by simp [Rc.all, ← e])
    have := R.st.apart hu hv0 hne
    have := szt r.n
    have := hr.1.ch.2.1.1
    omega
  · rw [allU_app, List.nodup_append]
    exact ⟨nd.1, nd.2.1.2.1, fun a ha c hc => nd.2.2 a ha c (by simp [hc])⟩
  · by_cases hv : v ∈ r.all
    · rw [ak0 v hv]
      exact ⟨fun x => absurd rfl x, fun x => absurd hv (dis v x)⟩
    · rw [ak v hv, R.cv v]
      simp only [allU_app, allU_cons, List.mem_append]
      exact ⟨fun x => by rcases x with x | x | x; exact .inl x; exact absurd x hv; exact .inr x, fun x => x.elim .inl (fun y => .inr (.inr y))⟩

theorem Recs.cnt {nu sz : Nat} {f : Nat → Int} {rs : List Rc} (R : Recs nu sz f rs) : cnt nu (ask nu f) = (allU rs).length := by
  have h1 : (plU (ask nu f) nu).Nodup := (plU_rise nu).imp (fun h e => by omega)
  have h2 : (plU (ask nu f) nu).Perm (allU rs) := (List.perm_ext_iff_of_nodup h1 R.nd).2 fun v => by
    rw [plU_mem, ← R.cv v]
    exact ⟨fun x => x.2, fun x => ⟨(R.st.inv.asks v x).1, x⟩⟩
  rw [← h2.length_eq, plU_len]; rfl
end

section
section
variable {nu sz : Nat} {w w' w0 : World} {X Y : Nat → Prop} {hb sb b : Nat} {T : Tay} {A : Ab} {N : Nat} {free : Prop} {s : Int} {base : Nat → Int}

theorem HpC.grow (h : HpC nu sz w0 X w hb sb b T A N free s base) {F : Nat → Prop} (hf : Fr F w w') (hF : ∀ k, F k → X k) (hn : ¬ F hb) (hY : ∀ k, Y k → X k ∨ (w.heap.size ≤ k ∧ k < w'.heap.size)) (hy : Y hb) : HpC nu sz w0 Y w' hb sb b T A N free s base := by
  have h1 := h.var hf hF hn
  refine ⟨⟨h1.hd.st, h1.hd.fr, h1.hd.new, fun k hk => ?_, fun k hk => ?_⟩, h1.cl, h1.hp, hy, h1.l0⟩
  · rcases hY k hk with e | e
    · exact h1.hd.ap k e
    · exact fun ht => by have := h.hd.st.lt k ht; omega
  · rcases hY k hk with e | e
    · exact h1.hd.xl k e
    · exact ⟨Nat.le_trans h.hd.fr.size e.1, e.2⟩

theorem HpC.box {V : Nat → Prop} {r : Nat} {v : Value} (h : HpC nu sz w0 X w hb sb b T A N free s base) (fr : Fr (fun k => tfoot sb b T k ∨ V k) w w') (hx : X r) (hv : ¬ V r) (bx : Box w r v) : Box w' r v :=
  bx.kept fr (fun e => e.elim (h.hd.ap r hx) hv)
theorem HpC.row {V : Nat → Prop} {v : Value} {lo e zz n : Nat} {xs : List Value} (h : HpC nu sz w0 X w hb sb b T A N free s base) (fr : Fr (fun k => tfoot sb b T k ∨ V k) w w') (hx : ∀ k, v.ownBlock = some k → X k ∧ ¬ V k) (o : w.ownsRow lo e zz v n xs) : w'.ownsRow lo e zz v n xs :=
  owns_same o fun k hk => fr.block k (o.lt k hk).2 (fun e => e.elim (h.hd.ap k (hx k hk).1) (hx k hk).2)
end

theorem row_still {w w' : World} {v : Value} {lo e sz n : Nat} {xs : List Value} (o : w.ownsRow lo e sz v n xs) (f : Still w w') : w'.ownsRow lo e sz v n xs :=
  owns_same o fun k hk => f.block k (o.lt k hk).2 (fun x => x)
theorem row_kept {w w' : World} {F : Nat → Prop} {v : Value} {lo e sz n : Nat} {xs : List Value} (o : w.ownsRow lo e sz v n xs) (f : Fr F w w') (hn : ∀ k, v.ownBlock = some k → ¬ F k) : w'.ownsRow lo e sz v n xs :=
  owns_same o fun k hk => f.block k (o.lt k hk).2 (hn k hk)

theorem well_errno {i : Int} (h : How.well = How.errno i) : False := by injection h with h; cases h
theorem errno_inj {i j : Int} (h : How.errno i = How.errno j) : i = j := by
  injection h with h; injection h with h; injection h with _ h; injection h

def places (nu : Nat) (ls : List (Nat × Nat)) : List Nat := ls.map fun y => fi nu + y.1 * 8
theorem row_form {w : World} {lo n : Nat} {v : Value} {xs : List Value} (h : w.ownsRow lo 3 1 v n xs) : (v = .slice none 0 0 ∧ n = 0) ∨ ∃ g cap, v = .slice (some ⟨g, 0, none⟩) n cap := by
  rcases h.2 with ⟨e1, e2⟩ | ⟨g, cap, cur, e, _⟩
  · exact .inl ⟨e1, e2⟩
  · exact .inr ⟨g, cap, e⟩
end
end Go.Proofs.YtflnaiijdpihcaaGreatDoor
