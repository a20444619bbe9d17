/- Joined: Rh Ri. -/
import Derived.Test.YtdgobaknbjlahaaGreatDoorXRe
import Derived.Test.YtdgobaknbjlahaaGreatDoorGHs
import Derived.Test.YtdgobaknbjlahaaGreatDoorXWd
namespace Go.Proofs.YtdgobaknbjlahaaGreatDoor
open Go.RowKit

section
theorem chP_get {nu : Nat} : ∀ {fr : Bool} {n : Nat} {us : List Nat} {m : Nat} {p : Prt}, (chP nu fr n us)[m]? = some p → ∃ x, us[m]? = some x ∧ p.at_ = ((fi nu + 8 * x : Nat) : Int)
  | _, _, [], _, _, h => by simp [chP] at h
  | fr, n, u :: us, 0, p, h => by simp [chP] at h; exact ⟨u, rfl, by rw [← h]; rfl⟩
  | fr, n, u :: us, m + 1, p, h => by
    obtain ⟨x, h1, h2⟩ := chP_get (us := us) (m := m) (p := p) (by simpa [chP] using h)
    exact ⟨x, by simpa using h1, h2⟩

section
variable {nu sz : Nat} {w w' w0 : World} {hb sb b : Nat} {T : Tay} {A : Ab} {P : List (Int × Int)} {u n k : Nat} {us : List Nat} {wd : Nat → Nat}

/-- The places of pieces. -/
def plcs (nu : Nat) (us : List Nat) : List Nat := us.map fun u => fi nu + 8 * u

set_option maxRecDepth 20000 in
set_option maxHeartbeats 4000000 in
theorem r_pieces (h : Hp nu sz w hb sb b T A P) (s : HpS nu (says P A)) (r : RecS nu sz (says P A) u us n k wd) :
    Calls Tryz.prog 17 #[ptr sb, ptr hb, .int .i64 (fi nu + 8 * u : Nat)] w fun e w' => ∃ v, e = .returned v ∧ w'.ownsRow w.heap.size 3 1 v (us.length + 1) (natVals (plcs nu (u :: us))) ∧ Still w w' := by
  have hi := info3
  obtain ⟨i0, hi0⟩ : ∃ i, Tryz.prog.info? 3 = some i := by
    cases h : Tryz.prog.info? 3 with
    | none => rw [h] at hi; simp at hi
    | some i => exact ⟨i, rfl⟩
  rw [hi0] at hi
  simp only [Option.map_some, Option.some.injEq, Prod.mk.injEq] at hi
  have HI := hide (And.intro hi0 hi)
  clear hi hi0
  have PS := r_parts h s r.ch r.len r.hk r.k1 (by have := r.k2; omega)
  have hl := r.len
  have HPS := hide PS
  clear PS h s r
  generalize ((fi nu + 8 * u : Nat) : Int) = p0 at *
  obtain ⟨L, hL⟩ : ∃ L, us.length + 1 = L := ⟨_, rfl⟩
  have hL16 : L ≤ 16 := by omega
  rw [hL] at HPS ⊢
  have HL := hide hL
  clear hL hl
  go_enter Tryz.func17, Tryz.ntmps17
  go_wp2_with fail
  refine (unhide HPS).mono ?_
  clear HPS
  rintro e w1 ⟨g, cap, rfl, pr, f1⟩
  have HX := hide (And.intro pr f1)
  clear pr f1
  go_wp2_with fail
  go_loopw [7, 15] (fun v iv wr => ∃ m : Nat, m ≤ L ∧ iv = .int .i64 m ∧ wr.ownsRow w1.heap.size 3 1 v m (natVals ((plcs nu (u :: us)).take m)) ∧ Still w1 wr) (fun v iv wr => L - (intOf iv).toNat)
  case atStart => exact ⟨0, by omega, rfl, World.ownsRow_nil _ _ _ _, Fr.refl _ _⟩
  case round =>
    obtain ⟨m, hm, rfl, own, fq⟩ := hrel
    generalize wr = wq at *
    clear wr
    by_cases hlt : m < L
    · have hlt' : ((m : Int) < L) = True := by simp; omega
      have prq := (unhide HX).1.still fq
      have hlen : (chP nu true n (u :: us)).length = L := by rw [chP_len]; exact unhide HL
      obtain ⟨p, hp⟩ : ∃ p, (chP nu true n (u :: us))[m]? = some p := ⟨_, List.getElem?_eq_getElem (by rw [hlen]; exact hlt)⟩
      obtain ⟨x, hx, hat⟩ := chP_get hp
      obtain ⟨c0, c1, c2, c3⟩ := prq.cells hp
      rw [hat] at c0
      have HXX := hide (And.intro own (And.intro fq hx))
      obtain ⟨W, hW⟩ : ∃ W, wq.alloc (.cells #[.int .i64 (fi nu + 8 * x : Nat), .int .u64 (kdN p.fr), .int .i64 p.n, .int .i64 p.nx] 71) = W := ⟨_, rfl⟩
      have fW : Still wq W := hW ▸ (Fr.refl _ wq).alloc _
      have zW : W.heap.size = wq.heap.size + 1 := by rw [← hW]; simp
      have b0 : W.cell? ⟨wq.heap.size, 0, none⟩ = some (.int .i64 (fi nu + 8 * x : Nat)) := cell_of_obj (hW ▸ heap_alloc_new wq _) 0
      have ownW : W.ownsRow w1.heap.size 3 1 u7 m _ := owns_same own fun k hk => fW.block k (own.lt k hk).2 (fun x => x)
      have lw := fq.size
      have HW := hide hW; have HOW := hide ownW; have HFW := hide fW
      clear hW fW ownW own fq hx prq hp hat hlen
      generalize hpx : ((fi nu + 8 * x : Nat) : Int) = px at *
      have HPX := hide hpx
      clear hpx
      generalize p.fr = pf at *
      generalize p.n = pn at *
      generalize p.nx = px2 at *
      go_upto_region 5 with fail
      rw [unhide HW]
      clear HW c0 c1 c2 c3
      generalize hgv : natVals ((plcs nu (u :: us)).take m) = vals at HOW
      have HGV := hide hgv
      clear hgv
      go_wp2_with (first | (at_builtin; refine wpList_append_own_at _ rfl _ _ 46 rfl w1.heap.size 3 i0 (.int .i64 0) 1 8 Tryz.underlying46 (unhide HI).1 (unhide HI).2.1 (unhide HI).2.2.1 (unhide HI).2.2.2 rfl (by decide) _ m vals rfl ((unhide HOW).alloc _) _ 1 1 [.int .i64 px] rfl rfl ?c1 ?c2 ?c3 ?c4 ?c5 ?_) | fail)
      case c1 => have := cell_one_new W (.int .i64 px) 3; rw [zW] at this; exact this
      case c2 => intro q hq; simp at hq; subst hq; rfl
      case c3 => unfold maxLen; omega
      case c4 => omega
      case c5 => simp <;> omega
      intro v' w6 hown hgrow hnil hloc
      have HG := hide (And.intro hown hgrow)
      clear hown hgrow hnil hloc
      go_wp2
      obtain ⟨hown, hgrow⟩ := unhide HG
      obtain ⟨own, fq, hx⟩ := unhide HXX
      refine ⟨⟨m + 1, by omega, by go_num, ?_, ?_⟩, by simp [intOf]; omega⟩
      · have e : (plcs nu (u :: us)).take (m + 1) = (plcs nu (u :: us)).take m ++ [fi nu + 8 * x] := by
          rw [List.take_add_one]
          have : (plcs nu (u :: us))[m]? = some (fi nu + 8 * x) := by unfold plcs; rw [List.getElem?_map, hx]; rfl
          rw [this]; rfl
        rw [e]
        have e2 : natVals ((plcs nu (u :: us)).take m ++ [fi nu + 8 * x]) = vals ++ [.int .i64 px] := by
          rw [← unhide HGV, ← unhide HPX]; simp [natVals]
        rw [e2]; exact hown
      · exact ((fq.trans' (unhide HFW) (fun _ x => x.elim)).alloc _).grown hgrow (fun k hk => .inr ((unhide HOW).lt k hk).1)
    · have hq : m = L := by omega
      subst hq
      have hlt' : ((m : Int) < m) = False := by simp
      have HXX := hide (And.intro own fq)
      clear own fq
      go_wp2
      go_ret
      obtain ⟨own, fq⟩ := unhide HXX
      have f1 := (unhide HX).2
      have et : (plcs nu (u :: us)).take m = plcs nu (u :: us) := List.take_of_length_le (by unfold plcs; have := unhide HL; simp; omega)
      rw [et] at own
      refine ⟨_, rfl, ⟨own.1, ?_⟩, f1.trans' fq (fun _ x => x.elim)⟩
      rcases own.2 with e | ⟨g', cap', cur, e, h1, h2⟩
      · exact .inl e
      · exact .inr ⟨g', cap', cur, e, Nat.le_trans f1.size h1, h2⟩

/-- What is asked for at these units is taken away. -/
def clr (K : Nat → Nat) (l : List Nat) : Nat → Nat := fun v => if v ∈ l then 0 else K v
theorem clr_nil (K : Nat → Nat) : clr K [] = K := by funext v; simp [clr]
theorem clr_snoc (K : Nat → Nat) (l : List Nat) (x : Nat) : setK (clr K l) x 0 = clr K (l ++ [x]) := by
  funext v
  unfold setK clr
  by_cases h1 : v = x
  · simp [h1]
  · by_cases h2 : v ∈ l
    · simp [h1, h2]
    · simp [h1, h2]

/-- A record whose last holder dropped it: its pieces are given, its first word is 0. -/
structure Dropped (nu : Nat) (f : Nat → Int) (u : Nat) (us : List Nat) (g : Nat → Int) : Prop where
  st : HpS nu g
  ak : ask nu g = clr (ask nu f) (u :: us)
  keep : ∀ i, fi nu ≤ i → i ≠ fi nu + 8 * u → g i = f i

theorem chain_tkn {f : Nat → Int} : ∀ {fr : Bool} {n : Nat} {us : List Nat} {m x : Nat}, Chain nu sz f fr n us → us[m]? = some x → ask nu f x ≠ 0
  | _, _, [], _, _, h, _ => h.elim
  | fr, n, u :: us, 0, x, h, hx => by
    simp at hx; subst hx
    rw [h.2.1.1]; have := sz_b fr n; omega
  | fr, n, u :: us, m + 1, x, h, hx => by
    rcases h.2.2 with e | e
    · subst e; simp at hx
    · exact chain_tkn e (by simpa using hx)

set_option maxRecDepth 20000 in
set_option maxHeartbeats 4000000 in
theorem r_drop1 (h : Hp nu sz w hb sb b T A P) (s : HpS nu (says P A)) (hm : P.length + 200 ≤ 6144) (r : RecS nu sz (says P A) u us n 1 wd) :
    Calls Tryz.prog 10 #[ptr sb, ptr hb, .int .i64 (fi nu + 8 * u : Nat)] w fun e w' => e = .returned (.bool true) ∧ ∃ g, To sz w sb b T A w' g (P.length + 200) ∧ Dropped nu (says P A) u us g := by
  have hi := r.hi
  obtain ⟨g1, g2, g3, g4, g5, g6⟩ := h.hp.geo.b
  have BG := r.begins h
  have MB : ∀ w1, Still w w1 → Calls Tryz.prog 34 #[ptr hb, ptV (fi nu + 8 * u : Nat) true n (8 * nxq nu us : Nat)] w1 fun e w' => e = .returned (.tuple #[]) ∧ Still w1 w' := fun w1 f1 => by
    have := r_must (h.still f1) s true n u (8 * nxq nu us : Nat) (by have := r.ch.1.n4; omega) r.ch.2.1
    rw [show ((fi nu : Int) + u * 8) = ((fi nu + 8 * u : Nat) : Int) by omega] at this
    exact this
  have LD : ∀ w1, Still w w1 → Calls Tryz.prog 36 #[ptr sb, .int .i64 (((fi nu + 8 * u : Nat) : Int) + 1)] w1 fun e w' => e = .returned (u64 1) ∧ w' = w1 := fun w1 f1 => by
    have := (h.still f1).load (fi nu + 8 * u + 1) (by omega)
    rw [r.hk] at this
    exact this
  have PT : ∀ w1, Still w w1 → Calls Tryz.prog 37 #[ptr sb, ptr hb, .int .i64 (fi nu + 8 * u : Nat)] w1 fun e w' => ∃ g cap, e = .returned (.slice (some ⟨g, 0, none⟩) (us.length + 1) cap) ∧ PR w' w1.heap.size (.slice (some ⟨g, 0, none⟩) (us.length + 1) cap) (chP nu true n (u :: us)) ∧ Still w1 w' := fun w1 f1 =>
    r_parts (h.still f1) s r.ch r.len r.hk r.k1 (by omega)
  have PU : ∀ w1, Still w w1 → Calls Tryz.prog 30 #[ptr sb, .int .i64 (fi nu + 8 * u : Nat), u64 0] w1 fun e w' => e = .returned (.tuple #[]) ∧ To sz w1 sb b T A w' (upd (says P A) (fi nu + 8 * u) 0) (P.length + 1) := fun w1 f1 =>
    (h.still f1).put (by omega) (fi nu + 8 * u) (by omega) 0
  have hl := r.len
  have HBG := hide BG; have HMB := @hide _ MB; have HLD := @hide _ LD; have HPT := @hide _ PT; have HPU := @hide _ PU
  have HH := hide h; have HS := hide s; have HR := hide r
  have hp4 : fi nu + 8 * u ≤ 40000 := by omega
  have HGG := hide (And.intro g2 g4)
  unfold ptV at HBG HMB
  clear BG MB LD PT PU h s r g1 g2 g3 g4 g5 g6 hi
  obtain ⟨p, hp⟩ : ∃ p, fi nu + 8 * u = p := ⟨_, rfl⟩
  obtain ⟨nx, hnx⟩ : ∃ nx : Int, ((8 * nxq nu us : Nat) : Int) = nx := ⟨_, rfl⟩
  obtain ⟨L, hL⟩ : ∃ L, us.length + 1 = L := ⟨_, rfl⟩
  simp only [hp, hnx, hL] at HBG HMB HLD HPT HPU hp4 ⊢
  have hL16 : L ≤ 16 := by omega
  have HE := hide (And.intro hp (And.intro hnx hL))
  clear hp hnx hL hl
  generalize kdN true = kd at *
  go_enter Tryz.func10, Tryz.ntmps10
  go_wp2_with fail
  refine (unhide HBG).mono ?_
  clear HBG
  rintro e w1 ⟨rfl, f1⟩
  have M1 := hide (unhide HMB w1 f1); have HF1 := hide f1
  clear f1 HMB
  go_wp2_with fail
  refine (unhide M1).mono ?_
  clear M1
  rintro e w2 ⟨rfl, f2⟩
  have f02 := (unhide HF1).trans' f2 (fun _ x => x.elim)
  have L2 := hide (unhide HLD w2 f02); have P2 := hide (unhide HPT w2 f02); have HF2 := hide f02
  clear f2 f02 HF1 HLD HPT
  go_wp2_with (first | (go_at_call 36; refine (unhide L2).mono ?_; rintro e w' ⟨rfl, hh⟩; replace hh := hh.symm; subst hh) | fail)
  refine (unhide P2).mono ?_
  clear P2 L2
  rintro e w3 ⟨g, cap, rfl, pr3, f3⟩
  have f03 := (unhide HF2).trans' f3 (fun _ x => x.elim)
  have U3 := hide (unhide HPU w3 f03); have HF3 := hide (And.intro f03 (And.intro pr3 f3))
  clear f3 f03 pr3 HPU
  go_wp2_with fail
  refine (unhide U3).mono ?_
  clear U3
  rintro e w4 ⟨rfl, T4, P4, o4, eg4, el4⟩
  obtain ⟨f03, pr3, f3⟩ := unhide HF3
  have h3 := (unhide HH).still f03
  have hlt3 : ∀ k, (Value.slice (some ⟨g, 0, none⟩) L cap).ownBlock = some k → ¬ tfoot sb b T k := fun k hk ht => by
    have h1 := (World.ownsRow.lt pr3 k hk).1
    have h2 := (unhide HH).st.lt k ht
    have h4 := (unhide HF2).size
    omega
  have pr4 := pr3.kept o4.fr hlt3
  obtain ⟨ep, enx, eL⟩ := unhide HE
  have s4 : HpS nu (says P4 A) := (unhide HS).own (fun i hi => by rw [eg4, upd_other _ _ (by omega)])
  have a4 : ask nu (says P4 A) = clr (ask nu (says P A)) ((u :: us).take 0) := by
    rw [List.take_zero, clr_nil]
    exact ask_own (fun i hi => by rw [eg4, upd_other _ _ (by omega)])
  have k4 : ∀ i, fi nu ≤ i → i ≠ p → says P4 A i = says P A i := fun i _ hn => by rw [eg4, upd_other _ _ hn]
  have HH3 := hide h3; have HLT := @hide _ hlt3
  have HX4 := hide (And.intro o4 (And.intro el4 (And.intro s4 (And.intro a4 (And.intro k4 pr4)))))
  have hlen : (chP nu true n (u :: us)).length = L := by rw [chP_len]; exact eL
  have HLN := hide hlen
  have f3s := f3.size
  clear h3 hlt3 o4 el4 s4 a4 k4 pr4 pr3 f3 ep enx eL HF2 hlen eg4 f03
  go_wp2_with fail
  go_loopw [37] (fun iv wr => ∃ (m : Nat) (T' : Tay) (P' : List (Int × Int)), m ≤ L ∧ iv = .int .i64 m ∧ Onx w3 sb b T wr T' sz A P' false ∧ P'.length ≤ P.length + 1 + 9 * m ∧ HpS nu (says P' A) ∧ ask nu (says P' A) = clr (ask nu (says P A)) ((u :: us).take m) ∧ (∀ i, fi nu ≤ i → i ≠ p → says P' A i = says P A i) ∧ PR wr w2.heap.size (.slice (some ⟨g, 0, none⟩) L cap) (chP nu true n (u :: us))) (fun iv wr => L - (intOf iv).toNat)
  case atStart =>
    obtain ⟨o4, el4, s4, a4, k4, pr4⟩ := unhide HX4
    exact ⟨0, T4, P4, by omega, rfl, o4, by omega, s4, a4, k4, pr4⟩
  case round =>
    clear HX4
    obtain ⟨m, T', P', hmL, rfl, o, el, sq, aq, kq, prq⟩ := hrel
    generalize wr = wq at *
    clear wr
    by_cases hlt : m < L
    · have hlt' : ((m : Int) < L) = True := by simp; omega
      obtain ⟨q, hq⟩ : ∃ q, (chP nu true n (u :: us))[m]? = some q := ⟨_, List.getElem?_eq_getElem (by rw [unhide HLN]; exact hlt)⟩
      obtain ⟨x, hx, hat⟩ := chP_get hq
      obtain ⟨c0, c1, c2, c3⟩ := prq.cells hq
      rw [hat] at c0
      have hne : ask nu (says P' A) x ≠ 0 := by
        rw [aq]
        have hnm : x ∉ (u :: us).take m := fun hin => by
          obtain ⟨j, hj⟩ := List.getElem?_of_mem hin
          have hjm : j < m := by
            have := (List.getElem?_eq_some_iff.1 hj).1
            simp at this; omega
          rw [List.getElem?_take, if_pos hjm] at hj
          have hjl := (List.getElem?_eq_some_iff.1 hj).1
          have := (List.getElem?_inj hjl (unhide HR).nd).1 (hj.trans hx.symm)
          omega
        unfold clr
        rw [if_neg hnm]
        exact chain_tkn (unhide HR).ch hx
      obtain ⟨W, hW⟩ : ∃ W, wq.alloc (.cells #[.int .i64 (fi nu + 8 * x : Nat), .int .u64 (kdN q.fr), .int .i64 q.n, .int .i64 q.nx] 71) = W := ⟨_, rfl⟩
      have fW : Still wq W := hW ▸ (Fr.refl _ wq).alloc _
      have b0 : W.cell? ⟨wq.heap.size, 0, none⟩ = some (.int .i64 (fi nu + 8 * x : Nat)) := cell_of_obj (hW ▸ heap_alloc_new wq _) 0
      have hq' := (unhide HH3).call (o.quiet fW)
      have GV := h_give hq' sq (by omega) x hne
      rw [show ((fi nu : Int) + x * 8) = ((fi nu + 8 * x : Nat) : Int) by omega] at GV
      have HGV := hide GV; have HW := hide hW; have HXX := hide (And.intro (o.quiet fW) (And.intro el (And.intro aq (And.intro kq (And.intro (prq.still fW) hx)))))
      clear GV hW fW hq' o el sq aq kq prq hx hat hne hq
      generalize ((fi nu + 8 * x : Nat) : Int) = px at *
      generalize q.fr = pf at *
      generalize q.n = pn at *
      generalize q.nx = px2 at *
      go_upto_region 11 with fail
      rw [unhide HW]
      clear HW c0 c1 c2 c3
      go_wp2_with fail
      refine (unhide HGV).mono ?_
      clear HGV
      rintro e w6 ⟨rfl, g6, ⟨T6, P6, o6, eg6, el6⟩, gv⟩
      have HG6 := hide (And.intro o6 (And.intro eg6 (And.intro el6 gv)))
      clear o6 eg6 el6 gv
      go_wp2
      obtain ⟨o6, eg6, el6, gv⟩ := unhide HG6
      obtain ⟨o, el, aq, kq, prq, hx⟩ := unhide HXX
      subst eg6
      refine ⟨⟨m + 1, T6, P6, by omega, by go_num, o.trans o6, by omega, gv.st, ?_, fun i hi hn => by rw [gv.keep i hi]; exact kq i hi hn, prq.kept o6.fr (fun k hk => o.other (World.ownsRow.lt (unhide HF3).2.1 k hk).2 (unhide HLT k hk))⟩, by simp [intOf]; omega⟩
      rw [gv.ak, aq, clr_snoc, List.take_add_one, hx]; rfl
    · have em : m = L := by omega
      subst em
      have hlt' : ((m : Int) < m) = False := by simp
      have HXX := hide (And.intro o (And.intro el (And.intro sq (And.intro aq kq))))
      clear o el sq aq kq prq
      go_wp2
      go_ret
      obtain ⟨o, el, sq, aq, kq⟩ := unhide HXX
      obtain ⟨ep, enx, eL⟩ := unhide HE
      refine ⟨rfl, says P' A, ⟨T', P', o.after (unhide HF3).1, rfl, by omega⟩, sq, ?_, fun i hi hn => kq i hi (by rw [← ep]; exact hn)⟩
      rw [aq, List.take_of_length_le (by simp; omega)]

set_option maxRecDepth 20000 in
set_option maxHeartbeats 2000000 in
theorem r_drop2 (h : Hp nu sz w hb sb b T A P) (s : HpS nu (says P A)) (hm : P.length < 6144) (r : RecS nu sz (says P A) u us n k wd) (hk : 2 ≤ k) :
    Calls Tryz.prog 10 #[ptr sb, ptr hb, .int .i64 (fi nu + 8 * u : Nat)] w fun e w' => e = .returned (.bool false) ∧ To sz w sb b T A w' (upd (says P A) (fi nu + 8 * u + 1) ((k - 1 : Nat) : Int)) (P.length + 1) := by
  have hi := r.hi
  obtain ⟨g1, g2, g3, g4, g5, g6⟩ := h.hp.geo.b
  have BG := r.begins h
  have MB : ∀ w1, Still w w1 → Calls Tryz.prog 34 #[ptr hb, ptV (fi nu + 8 * u : Nat) true n (8 * nxq nu us : Nat)] w1 fun e w' => e = .returned (.tuple #[]) ∧ Still w1 w' := fun w1 f1 => by
    have := r_must (h.still f1) s true n u (8 * nxq nu us : Nat) (by have := r.ch.1.n4; omega) r.ch.2.1
    rw [show ((fi nu : Int) + u * 8) = ((fi nu + 8 * u : Nat) : Int) by omega] at this
    exact this
  have LD : ∀ w1, Still w w1 → Calls Tryz.prog 36 #[ptr sb, .int .i64 (((fi nu + 8 * u : Nat) : Int) + 1)] w1 fun e w' => e = .returned (u64 (k : Nat)) ∧ w' = w1 := fun w1 f1 => by
    have := (h.still f1).load (fi nu + 8 * u + 1) (by omega)
    rw [r.hk] at this
    exact this
  have PU : ∀ w1, Still w w1 → Calls Tryz.prog 30 #[ptr sb, .int .i64 (((fi nu + 8 * u : Nat) : Int) + 1), u64 ((k : Int) - 1)] w1 fun e w' => e = .returned (.tuple #[]) ∧ To sz w1 sb b T A w' (upd (says P A) (fi nu + 8 * u + 1) ((k : Int) - 1)) (P.length + 1) := fun w1 f1 =>
    (h.still f1).put hm (fi nu + 8 * u + 1) (by omega) ((k : Int) - 1)
  have k2 := r.k2
  have hkw : IntKind.u64.wrap ((k : Int) - 1) = (k : Int) - 1 := by rw [IntKind.wrap_u64]; omega
  have hk1 : ((1 : Int) < k) = True := by simp; omega
  have HBG := hide BG; have HMB := @hide _ MB; have HLD := @hide _ LD; have HPU := @hide _ PU
  have hp4 : fi nu + 8 * u ≤ 40000 := by omega
  unfold ptV at HBG HMB
  rw [show ((k - 1 : Nat) : Int) = (k : Int) - 1 by omega]
  clear BG MB LD PU h s r g1 g2 g3 g4 g5 g6 hi hm
  generalize fi nu + 8 * u = p at *
  generalize ((8 * nxq nu us : Nat) : Int) = nx at *
  generalize kdN true = kd at *
  go_enter Tryz.func10, Tryz.ntmps10
  go_wp2_with fail
  refine (unhide HBG).mono ?_
  clear HBG
  rintro e w1 ⟨rfl, f1⟩
  have M1 := hide (unhide HMB w1 f1); have HF1 := hide f1
  clear f1 HMB
  go_wp2_with fail
  refine (unhide M1).mono ?_
  clear M1
  rintro e w2 ⟨rfl, f2⟩
  have f02 := (unhide HF1).trans' f2 (fun _ x => x.elim)
  have L2 := hide (unhide HLD w2 f02); have U2 := hide (unhide HPU w2 f02); have HF2 := hide f02
  clear f2 f02 HF1 HLD HPU
  go_wp2_with (first | (go_at_call 36; refine (unhide L2).mono ?_; rintro e w' ⟨rfl, hh⟩; replace hh := hh.symm; subst hh) | fail)
  refine (unhide U2).mono ?_
  clear U2 L2
  rintro e w3 ⟨rfl, t⟩
  have HT := hide (t.after (unhide HF2))
  clear t
  go_wp2
  go_ret
  exact ⟨rfl, unhide HT⟩
end
end

section
theorem info_u64E : ∃ i, Tryz.prog.info? 69 = some i ∧ i.zero = some (.int .u64 0) ∧ i.size = 1 ∧ i.bytes = 8 := by
  have hi := infoU
  cases h : Tryz.prog.info? 69 with
  | none => rw [h] at hi; simp at hi
  | some i => rw [h] at hi; simp only [Option.map_some, Option.some.injEq, Prod.mk.injEq] at hi; exact ⟨i, rfl, hi⟩
/-- The run of an append of one word to a row of one's own. -/
theorem run_u64 (w : World) (lo : Nat) (v : Value) (l : List Nat) (hown : OwnL .u64 69 w lo v l) (y : Nat) (hl : l.length ≤ 100000) (hlo : lo ≤ w.heap.size) :
    ∃ v' w', (Builtin.append_ #[67, 67] 67 #[v, .slice (some ⟨w.heap.size, 0, none⟩) 1 1]).run Tryz.prog (w.alloc (.cells #[.int .u64 (y : Nat)] 69)) = .ok v' w' ∧ OwnL .u64 69 w' lo v' (l ++ [y]) ∧ Fr (fun k => v.ownBlock = some k) w w' ∧ (v'.ownBlock = v.ownBlock ∨ v'.ownBlock = some (w.heap.size + 1)) := by
  obtain ⟨i, hi, hz, hsize, hby⟩ := info_u64E
  have hA : (w.alloc (.cells #[.int .u64 (y : Nat)] 69)).heap.size = w.heap.size + 1 := by simp
  have own1 : (w.alloc (.cells #[.int .u64 (y : Nat)] 69)).ownsRow lo 69 1 v l.length (vals .u64 l) := owns_same hown fun k hk => ((Fr.refl (fun _ => False) w).alloc _).block k (World.ownsRow.lt hown k hk).2 (fun x => x)
  obtain ⟨v', w', hr, h2, h3, _, h5⟩ := run_append_own_at (P := Tryz.prog) (w.alloc (.cells #[.int .u64 (y : Nat)] 69)) lo 67 67 69 i (.int .u64 0) 1 8 Tryz.underlying67 hi hz hsize hby rfl (by decide) v l.length (vals .u64 l) own1 ⟨w.heap.size, 0, none⟩ 1 1 [.int .u64 (y : Nat)] rfl (cell_one_new w _ _) (by intro q hq; simp at hq; subst hq; rfl) (by unfold maxLen; omega) (by omega) (by rw [hA]; omega)
  refine ⟨v', w', hr, ?_, ((Fr.refl (fun k => v.ownBlock = some k) w).alloc _).grown h3 (fun r e => .inl e), by rw [hA] at h5; exact h5⟩
  unfold OwnL
  rw [List.length_append]
  simpa [vals] using h2

/-- In the midst of reading: m pieces are read, o words; the rest. -/
structure RdI (nu sz : Nat) (f : Nat → Int) (wd : Nat → Nat) (n0 : Nat) (all : List Nat) (m : Nat) (fr : Bool) (o n : Nat) (rest : List Nat) : Prop where
  eq : (chP nu true n0 all).drop m = chP nu fr n rest
  ch : rest = [] ∨ Chain nu sz f fr n rest
  da : Data nu f wd fr o n rest
  cnt : o + (if rest = [] then 0 else (n + 7) / 8) = (n0 + 7) / 8
  len : m + rest.length = all.length

/-- How many words of bytes a piece has. -/
def dwN (fr : Bool) (n : Nat) : Nat := szN fr n - ahd fr

theorem RdI.next {nu sz : Nat} {f : Nat → Int} {wd : Nat → Nat} {n0 : Nat} {all : List Nat} {m : Nat} {fr : Bool} {o n u : Nat} {rest : List Nat} (r : RdI nu sz f wd n0 all m fr o n (u :: rest)) : RdI nu sz f wd n0 all (m + 1) false (o + dwN fr n) (bhN fr n) rest ∧ ahd fr + dwN fr n = szN fr n := by
  obtain ⟨pa, tk, ch'⟩ := r.ch.resolve_left (by simp)
  have ha : ahd fr ≤ 2 := by unfold ahd; split <;> omega
  have hnx := pa.nx
  have hc := r.cnt
  rw [if_neg (by simp)] at hc
  refine ⟨⟨?_, ch', r.da.2, ?_, by have := r.len; simp at this ⊢; omega⟩, by unfold dwN szN; omega⟩
  · rw [← List.drop_drop, r.eq]
    simp [chP]
  · cases rest with
    | nil =>
      rw [if_pos rfl]
      have h0 : bhN fr n = 0 := hnx.1 rfl
      unfold bhN at h0
      unfold dwN szN
      omega
    | cons y rest =>
      rw [if_neg (by simp)]
      have h0 : bhN fr n ≠ 0 := fun e => (nxq_ne (nu := nu) (u := y) (us := rest)).1 (hnx.2 e)
      unfold bhN at h0 ⊢
      unfold dwN szN
      omega

section
variable {nu sz : Nat} {w w' w0 : World} {hb sb b : Nat} {T : Tay} {A : Ab} {P : List (Int × Int)} {u n k : Nat} {us : List Nat} {wd : Nat → Nat}

set_option maxRecDepth 20000 in
set_option maxHeartbeats 8000000 in
theorem r_read (h : Hp nu sz w hb sb b T A P) (s : HpS nu (says P A)) (bt : Nat → Nat) (hbt : ∀ i, i < n → bt i < 256) (r : RecS nu sz (says P A) u us n k (wordN bt n)) :
    Calls Tryz.prog 16 #[ptr sb, ptr hb, .int .i64 (fi nu + 8 * u : Nat)] w fun e w' => ∃ g, e = .returned (.slice (some ⟨g, 0, none⟩) n n) ∧ Mem .u8 w g n bt w' := by
  have PS := r_parts h s r.ch r.len r.hk r.k1 (by have := r.k2; omega)
  have hl := r.len
  have n4 := r.ch.1.n4
  have HPS := hide PS; have HH := hide h; have HR := hide r; have HBT := @hide _ hbt
  clear PS h s r hbt
  obtain ⟨p0, hp0⟩ : ∃ p0 : Int, ((fi nu + 8 * u : Nat) : Int) = p0 := ⟨_, rfl⟩
  obtain ⟨L, hL⟩ : ∃ L, us.length + 1 = L := ⟨_, rfl⟩
  have hL16 : 1 ≤ L ∧ L ≤ 16 := by omega
  rw [hp0] at HPS ⊢
  rw [hL] at HPS
  have HL := hide hL
  clear hL hl hp0
  go_enter Tryz.func16, Tryz.ntmps16
  go_wp2_with fail
  refine (unhide HPS).mono ?_
  clear HPS
  rintro e w1 ⟨g, cap, rfl, pr, f1⟩
  have hg0 : (chP nu true n (u :: us))[0]? = some ⟨(fi nu + 8 * u : Nat), true, n, (8 * nxq nu us : Nat)⟩ := rfl
  obtain ⟨c0, c1, c2, c3⟩ := pr.cells hg0
  have c2' : w1.cell? ⟨g, 2, none⟩ = some (.int .i64 n) := by simpa using c2
  have hwn : IntKind.u64.wrap (n : Int) = n := by rw [IntKind.wrap_u64]; omega
  have hL0 : ((0 : Int) < L) = True := by simp; omega
  obtain ⟨W, hW⟩ : ∃ W, w1.alloc (.cells #[.int .u64 n] 69) = W := ⟨_, rfl⟩
  have fW : Still w1 W := hW ▸ (Fr.refl _ w1).alloc _
  have own0 : OwnL .u64 69 W w1.heap.size (.slice (some ⟨w1.heap.size, 0, none⟩) 1 1) ([n] ++ rowL (wordN bt n) 0) := by
    have := OwnL.one .u64 69 w1 n
    rw [hW] at this; exact this
  have rd0 : RdI nu sz (says P A) (wordN bt n) n (u :: us) 0 true 0 n (u :: us) := ⟨by simp, .inr (unhide HR).ch, (unhide HR).da, by rw [if_neg (by simp)]; omega, by simp⟩
  have HX := hide (And.intro pr (And.intro f1 (And.intro fW (And.intro own0 rd0)))); have HW := hide hW
  clear pr f1 hg0 c0 c1 c2 c3 fW own0 rd0 hW
  go_wp2_with fail
  rw [unhide HW]
  clear HW c2' hwn hL0
  go_loopw [26, 8] (fun iv v wr => ∃ (m : Nat) (fr : Bool) (o n' : Nat) (rest : List Nat), iv = .int .i64 m ∧ RdI nu sz (says P A) (wordN bt n) n (u :: us) m fr o n' rest ∧ OwnL .u64 69 wr w1.heap.size v ([n] ++ rowL (wordN bt n) o) ∧ Still w1 wr) (fun iv v wr => L - (intOf iv).toNat)
  case atStart =>
    obtain ⟨pr, f1, fW, own0, rd0⟩ := unhide HX
    exact ⟨0, true, 0, n, u :: us, rfl, rd0, own0, fW⟩
  case round =>
    obtain ⟨m, fr, o, n', rest, rfl, rd, own, fq⟩ := hrel
    generalize wr = wq at *
    clear wr
    have hlen := rd.len
    have eL := unhide HL
    simp at hlen
    obtain ⟨pr, f1, -, -, -⟩ := unhide HX
    have prq := pr.still fq
    cases rest with
    | nil =>
      have em : m = L := by simp at hlen; omega
      subst em
      have hlt' : ((m : Int) < m) = False := by simp
      have hc := rd.cnt
      rw [if_pos rfl, Nat.add_zero] at hc
      subst hc
      obtain ⟨pb1, pb2, pb3⟩ := pack_back bt n (unhide HBT) (by omega)
      obtain ⟨va, cv, ev, hcv, nt⟩ := own.nats
      have hll : ([n] ++ rowL (wordN bt n) ((n + 7) / 8)).length = need n := by simp [rowL, need]; omega
      rw [hll] at ev hcv nt
      have nt2 : Nats .u64 wq va (need n) (packF bt n) := fun i hi => by
        obtain ⟨xb, xo, e1, e2⟩ := nt i hi
        refine ⟨xb, xo, e1, ?_⟩
        rw [e2]
        congr 2
        cases i with
        | zero => simp [packF]
        | succ i =>
          have : i < (n + 7) / 8 := by unfold need at hi; omega
          simp [packF, rowL, this]
      subst ev
      have UP := unpack_ok va (need n) cv (packF bt n) wq nt2 (fun i _ => pack_lt bt n i (unhide HBT) (by omega)) (by unfold need; omega)
      rw [pb1, pb2] at UP
      have HUP := hide UP
      have HF := hide (f1.trans' fq (fun _ x => x.elim)); have HP3 := @hide _ pb3
      clear UP pb1 pb2 pb3 nt nt2 own fq prq pr f1 rd hlen hll hcv eL
      generalize need n = nd at *
      go_wp2_with fail
      refine (unhide HUP).mono ?_
      clear HUP
      rintro e w3 ⟨bl, ⟨hne, _⟩ | ⟨_, gg, rfl, mem⟩⟩
      · exact absurd rfl hne
      · have HM := hide mem
        clear mem bl
        go_wp2
        go_ret
        have ff := unhide HF
        exact ⟨gg, rfl, ((unhide HM).ext (unhide HP3)).since ⟨ff.os, ff.tape, ff.output, ff.size, fun k hk => ff.block k hk (fun x => x)⟩⟩
    | cons y rest =>
      have hmL : m < L := by simp at hlen; omega
      have hlt' : ((m : Int) < L) = True := by simp; omega
      obtain ⟨pa, tk, ch'⟩ := rd.ch.resolve_left (by simp)
      obtain ⟨rd2, hsum⟩ := rd.next
      have hq : (chP nu true n (u :: us))[m]? = some ⟨(fi nu + 8 * y : Nat), fr, n', (8 * nxq nu rest : Nat)⟩ := by
        have : ((chP nu true n (u :: us)).drop m)[0]? = some ⟨(fi nu + 8 * y : Nat), fr, n', (8 * nxq nu rest : Nat)⟩ := by rw [rd.eq]; rfl
        simpa using this
      obtain ⟨c0, c1, c2, c3⟩ := prq.cells hq
      have n4' := pa.n4
      have hhi := pa.hi
      have da := rd.da.1
      have ha : 1 ≤ ahd fr ∧ ahd fr ≤ 2 := by unfold ahd; split <;> omega
      have ssz := sz_b fr n'
      have hgeo := (unhide HH).hp.geo.b.2.2.2.2.2
      have own1 : ∀ w2, Still wq w2 → OwnL .u64 69 w2 w1.heap.size u8 ([n] ++ rowL (wordN bt n) o) := fun w2 f2 => owns_same own fun k hk => f2.block k (World.ownsRow.lt own k hk).2 (fun x => x)
      obtain ⟨A1, hA1⟩ : ∃ A1, wq.alloc (ptO (fi nu + 8 * y : Nat) fr n' (8 * nxq nu rest : Nat)) = A1 := ⟨_, rfl⟩
      have fA1 : Still wq A1 := hA1 ▸ (Fr.refl _ wq).alloc _
      have pbA : PB A1 wq.heap.size (fi nu + 8 * y : Nat) fr n' (8 * nxq nu rest : Nat) := by
        have := heap_alloc_new wq (ptO (fi nu + 8 * y : Nat) fr n' (8 * nxq nu rest : Nat))
        rw [hA1] at this; exact this
      have AH := p_ahead (fi nu + 8 * y : Nat) fr n' (8 * nxq nu rest : Nat) A1
      have PSZ := p_size (fi nu + 8 * y : Nat) fr n' (8 * nxq nu rest : Nat) (by omega)
      have LD : ∀ (w2 : World) (i : Nat), Still w1 w2 → ahd fr ≤ i → i < szN fr n' → Calls Tryz.prog 36 #[ptr sb, .int .i64 (((fi nu + 8 * y : Nat) : Int) + i)] w2 fun e w' => e = .returned (u64 ((wordN bt n (o + (i - ahd fr)) : Nat) : Int)) ∧ w' = w2 := fun w2 i f2 h1 h2 => by
        have := ((unhide HH).still (f1.trans' f2 (fun _ x => x.elim))).load (fi nu + 8 * y + i) (by omega)
        have hd := da (i - ahd fr) (by omega)
        rw [show fi nu + 8 * y + ahd fr + (i - ahd fr) = fi nu + 8 * y + i by omega] at hd
        rw [hd] at this
        exact this
      obtain ⟨d0, d1, d2, d3, dz⟩ := pbA.cells
      unfold ptV ptO at *
      have HAH := hide AH; have HPSZ := @hide _ PSZ; have HLD := @hide _ LD; have HA1 := hide hA1
      have HD := hide (And.intro rd2 (And.intro fq (And.intro hsum (And.intro fA1 pbA)))); have HO1 := @hide _ own1
      have l10 := World.block_lt_of_cell? _ _ d0
      have lq := fq.size
      have lown : ∀ k, u8.ownBlock = some k → k < wq.heap.size := fun k hk => (World.ownsRow.lt own k hk).2
      have ho5 : o ≤ 600 := by have := rd.cnt; omega
      have hhz : fi nu + 8 * y + szN fr n' ≤ 40000 := by omega
      have HLO := @hide _ lown
      clear AH PSZ LD hA1 rd rd2 own own1 fA1 pbA prq pr f1 fq hq pa tk ch' da hlen hhi hgeo lown eL
      obtain ⟨px, hpx⟩ : ∃ px : Nat, fi nu + 8 * y = px := ⟨_, rfl⟩
      simp only [hpx] at HAH HPSZ HLD HA1 HD hhz c0 d0
      obtain ⟨nx, hnx⟩ : ∃ nx : Int, ((8 * nxq nu rest : Nat) : Int) = nx := ⟨_, rfl⟩
      simp only [hnx] at HAH HPSZ HA1 HD c3 d3
      obtain ⟨a, ea⟩ : ∃ a, ahd fr = a := ⟨_, rfl⟩
      obtain ⟨z, ez⟩ : ∃ z, szN fr n' = z := ⟨_, rfl⟩
      simp only [ea] at HAH HLD HD ha
      simp only [ez] at HPSZ HLD HD ssz hhz
      obtain ⟨kd, ekd⟩ : ∃ kd, kdN fr = kd := ⟨_, rfl⟩
      simp only [ekd] at HAH HPSZ HA1 c1 d1
      have HEZ := hide (And.intro hpx (And.intro hnx (And.intro ea (And.intro ez ekd))))
      clear hpx hnx ea ez ekd
      go_upto_region 6 with fail
      rw [unhide HA1]
      clear HA1 c0 c1 c2 c3
      go_wp2_with fail
      refine (unhide HAH).mono ?_
      clear HAH
      rintro e w2 ⟨rfl, hw2⟩
      have f12 : Still A1 w2 := by rw [hw2]; exact (Fr.refl _ A1).alloc _
      clear hw2
      obtain ⟨rd2, fq, hsum, fA1, pbA⟩ := unhide HD
      have f02 : Still wq w2 := fA1.trans' f12 (fun _ x => x.elim)
      have f1w2 := fq.trans' f02 (fun _ x => x.elim)
      have pb2 := pbA.still f12 (fun x => x)
      have own2 := unhide HO1 w2 f02
      have hlo2 : ∀ k, u8.ownBlock = some k → k ≠ wq.heap.size := fun k hk => by have := unhide HLO k hk; omega
      have HX2 := hide (And.intro f1w2 (And.intro pb2 (And.intro own2 hlo2)))
      clear rd2 fq fA1 pbA f02 f1w2 pb2 own2 hlo2 f12 d0 d1 d2 d3 dz
      go_wp2_with fail
      generalize wq.heap.size = g10 at *
      go_loopw [11, 8] (fun iv v wr => ∃ i : Nat, a ≤ i ∧ i ≤ z ∧ iv = .int .i64 i ∧ Still w1 wr ∧ PB wr g10 (px : Nat) fr n' nx ∧ OwnL .u64 69 wr w1.heap.size v ([n] ++ rowL (wordN bt n) (o + (i - a))) ∧ ∀ k, v.ownBlock = some k → k ≠ g10) (fun iv v wr => z - (intOf iv).toNat)
      case atStart =>
        obtain ⟨f1w2, pb2, own2, hlo2⟩ := unhide HX2
        refine ⟨a, Nat.le_refl _, by have := (unhide HD).2.2.1; omega, rfl, f1w2, pb2, ?_, hlo2⟩
        rw [Nat.sub_self, Nat.add_zero]; exact own2
      case round =>
        clear HX2
        obtain ⟨i, hai, hiz, rfl, fx, pbx, ownx, hlo⟩ := hrel
        generalize wr = wx at *
        clear wr
        obtain ⟨d0, d1, d2, d3, dz⟩ := pbx.cells
        obtain ⟨epx, enx, ea, ez, ekd⟩ := unhide HEZ
        rw [ekd] at d1
        clear epx enx ea ez ekd
        have SZ := hide (unhide HPSZ wx)
        by_cases hlt : i < z
        · have hlt' : ((i : Int) < z) = True := by simp; omega
          have HXX := hide (And.intro fx (And.intro pbx (And.intro ownx hlo)))
          clear fx pbx ownx hlo
          go_wp2_with fail
          refine (unhide SZ).mono ?_
          clear SZ
          rintro e w3 ⟨rfl, f3⟩
          obtain ⟨fx, pbx, ownx, hlo⟩ := unhide HXX
          have f13 := fx.trans' f3 (fun _ x => x.elim)
          have pb3 := pbx.still f3 (fun x => x)
          have own3 : OwnL .u64 69 w3 w1.heap.size u8 ([n] ++ rowL (wordN bt n) (o + (i - a))) := owns_same ownx fun k hk => f3.block k (World.ownsRow.lt ownx k hk).2 (fun x => x)
          have L3 := unhide HLD w3 i f13 hai hlt
          obtain ⟨e0, -, -, -, -⟩ := pb3.cells
          obtain ⟨v4, w4, hap, own4, fr4, loc4⟩ := run_u64 w3 w1.heap.size u8 _ own3 (wordN bt n (o + (i - a))) (by simp [rowL]; omega) f13.size
          obtain ⟨ad4, nn4, cp4, ev4⟩ : ∃ ad nn cp, v4 = .slice ad nn cp := by
            rcases own4.2 with ⟨e, _⟩ | ⟨gg, cp, cur, e, _⟩
            · exact ⟨_, _, _, e⟩
            · exact ⟨_, _, _, e⟩
          subst ev4
          have f14 : Still w1 w4 := f13.trans' fr4 (fun k hk => .inr (World.ownsRow.lt own3 k hk).1)
          have pb4 := pb3.still fr4 (fun e => hlo _ e rfl)
          have hlo4 : ∀ k, (Value.slice ad4 nn4 cp4).ownBlock = some k → k ≠ g10 := fun k hk => by
            rcases loc4 with e | e
            · exact hlo k (by rw [← e]; exact hk)
            · rw [hk] at e; have := Option.some.inj e; have := World.block_lt_of_cell? _ _ e0; simp at this; omega
          have HL3 := hide L3; have HAP := hide hap
          have HX4 := hide (And.intro f14 (And.intro pb4 (And.intro own4 hlo4)))
          clear L3 hap f14 pb4 own4 hlo4 fr4 loc4 own3 pb3 f13 f3 fx pbx ownx hlo HXX d0 d1 d2 d3 dz
          generalize hwv : wordN bt n (o + (i - a)) = wv at *
          have HWV := hide hwv
          clear hwv
          go_wp2_with (first | (go_at_call 36; refine (unhide HL3).mono ?_; rintro e w' ⟨rfl, hh⟩; replace hh := hh.symm; subst hh) | (at_builtin; refine wpList_append_run rfl (.tmp 38) (.tmp 45) 67 rfl _ _ rfl rfl (.slice ad4 nn4 cp4) w4 (unhide HAP) ?_) | fail)
          obtain ⟨f14, pb4, own4, hlo4⟩ := unhide HX4
          refine ⟨⟨i + 1, by omega, by omega, by go_num, f14, pb4, ?_, hlo4⟩, by simp [intOf]; omega⟩
          have e : o + (i + 1 - a) = o + (i - a) + 1 := by omega
          rw [e, rowL_succ, ← List.append_assoc, unhide HWV]
          exact own4
        · have hlt' : ((i : Int) < z) = False := by simp; omega
          have ei : i = z := by omega
          have HXX := hide (And.intro fx (And.intro pbx (And.intro ownx hlo)))
          clear fx pbx ownx hlo
          go_wp2_with fail
          refine (unhide SZ).mono ?_
          clear SZ
          rintro e w3 ⟨rfl, f3⟩
          have HF3 := hide f3
          clear f3
          go_wp2
          obtain ⟨fx, pbx, ownx, hlo⟩ := unhide HXX
          obtain ⟨rd2, fq, hsum, fA1, pbA⟩ := unhide HD
          have f3 := unhide HF3
          subst ei
          refine ⟨⟨m + 1, false, o + dwN fr n', bhN fr n', rest, by go_num, rd2, ?_, fx.trans' f3 (fun _ x => x.elim)⟩, by simp [intOf]; omega⟩
          have e : i - a = dwN fr n' := by omega
          rw [← e]
          exact owns_same ownx fun k hk => f3.block k (World.ownsRow.lt ownx k hk).2 (fun x => x)
end
end
end Go.Proofs.YtdgobaknbjlahaaGreatDoor
