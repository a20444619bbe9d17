/- Joined: GLq Uk Ul Um Va. -/
import Derived.Maps.AppendAt
import Derived.Test.YtkaplgmjdfmpmaaGreatDoorP02
import Derived.Test.YtkaplgmjdfmpmaaGreatDoorP14
import Derived.Test.YtkaplgmjdfmpmaaGreatDoorP27
namespace Go.Proofs.YtkaplgmjdfmpmaaGreatDoor
open Go.RowKit

section
section
variable {nu sz : Nat} {w w' w0 : World} {X Y : Nat → Prop} {hb sb b : Nat} {T : Tay} {A : Ab} {N : Nat} {free : Prop} {s : Int} {base : Nat → Int}

theorem HpC.grow (h : HpC nu sz w0 X w hb sb b T A N free s base) {F : Nat → Prop} (hf : Fr F w w') (hF : ∀ k, F k → X k) (hn : ¬ F hb) (hY : ∀ k, Y k → X k ∨ (w.heap.size ≤ k ∧ k < w'.heap.size)) (hy : Y hb) : HpC nu sz w0 Y w' hb sb b T A N free s base := by
  have h1 := h.var hf hF hn
  refine ⟨⟨h1.hd.st, h1.hd.fr, h1.hd.new, fun k hk => ?_, fun k hk => ?_⟩, h1.cl, h1.hp, hy, h1.l0⟩
  · rcases hY k hk with e | e
    · exact h1.hd.ap k e
    · exact fun ht => by have := h.hd.st.lt k ht; omega
  · rcases hY k hk with e | e
    · exact h1.hd.xl k e
    · exact ⟨Nat.le_trans h.hd.fr.size e.1, e.2⟩

theorem HpC.box {V : Nat → Prop} {r : Nat} {v : Value} (h : HpC nu sz w0 X w hb sb b T A N free s base) (fr : Fr (fun k => tfoot sb b T k ∨ V k) w w') (hx : X r) (hv : ¬ V r) (bx : Box w r v) : Box w' r v :=
  bx.kept fr (fun e => e.elim (h.hd.ap r hx) hv)
theorem HpC.row {V : Nat → Prop} {v : Value} {lo e zz n : Nat} {xs : List Value} (h : HpC nu sz w0 X w hb sb b T A N free s base) (fr : Fr (fun k => tfoot sb b T k ∨ V k) w w') (hx : ∀ k, v.ownBlock = some k → X k ∧ ¬ V k) (o : w.ownsRow lo e zz v n xs) : w'.ownsRow lo e zz v n xs :=
  owns_same o fun k hk => fr.block k (o.lt k hk).2 (fun e => e.elim (h.hd.ap k (hx k hk).1) (hx k hk).2)
end

theorem row_still {w w' : World} {v : Value} {lo e sz n : Nat} {xs : List Value} (o : w.ownsRow lo e sz v n xs) (f : Still w w') : w'.ownsRow lo e sz v n xs :=
  owns_same o fun k hk => f.block k (o.lt k hk).2 (fun x => x)
theorem row_kept {w w' : World} {F : Nat → Prop} {v : Value} {lo e sz n : Nat} {xs : List Value} (o : w.ownsRow lo e sz v n xs) (f : Fr F w w') (hn : ∀ k, v.ownBlock = some k → ¬ F k) : w'.ownsRow lo e sz v n xs :=
  owns_same o fun k hk => f.block k (o.lt k hk).2 (hn k hk)

theorem well_errno {i : Int} (h : How.well = How.errno i) : False := by injection h with h; cases h
def places (nu : Nat) (ls : List (Nat × Nat)) : List Nat := ls.map fun y => fi nu + y.1 * 8
theorem row_form {w : World} {lo n : Nat} {v : Value} {xs : List Value} (h : w.ownsRow lo 3 1 v n xs) : (v = .slice none 0 0 ∧ n = 0) ∨ ∃ g cap, v = .slice (some ⟨g, 0, none⟩) n cap := by
  rcases h.2 with ⟨e1, e2⟩ | ⟨g, cap, cur, e, _⟩
  · exact .inl ⟨e1, e2⟩
  · exact .inr ⟨g, cap, e⟩
end

section
theorem eq_nil_keep (g : Nat) (ca : Array Value) (w : World) : (binOp .eql 91 (.func (.func g) #[] ca) .nilFunc).run Tryz.prog w = .ok (.bool false) w := by kernel_rfl

theorem ex_at {U : List Nat} {q m : Nat} (h : U.length = m) (hq : q < m) : ∃ x, U[q]? = some x := ⟨U[q]'(by omega), List.getElem?_eq_getElem _⟩
def goneU (kp : Nat → Bool) (U : List Nat) : List Nat := U.filter fun u => !kp u
def placesU (nu : Nat) (U : List Nat) : List Nat := U.map fun u => fi nu + u * 8
theorem gone_take {kp : Nat → Bool} {U : List Nat} {q x : Nat} (h : U[q]? = some x) : goneU kp (U.take (q + 1)) = goneU kp (U.take q) ++ (if kp x then [] else [x]) := by
  unfold goneU
  rw [List.take_add_one, h, List.filter_append]
  cases e : kp x <;> simp [e]
theorem gone_len (kp : Nat → Bool) (U : List Nat) : (goneU kp U).length ≤ U.length := List.length_filter_le _ _

theorem take_no {G : List Nat} (h : G.Pairwise (· < ·)) {q x : Nat} (hx : G[q]? = some x) : x ∉ G.take q := fun hm => by
  obtain ⟨a, e⟩ := List.getElem?_eq_some_iff.1 hx
  obtain ⟨k, hk, ek⟩ := List.mem_iff_getElem.1 hm
  have hk' : k < q := by rw [List.length_take] at hk; omega
  rw [List.getElem_take] at ek
  have := List.pairwise_iff_getElem.1 h k q (by omega) a hk'
  omega

section
variable {nu sz : Nat} {w w0 : World} {hb sb b bl : Nat} {T : Tay} {A : Ab} {P : List (Int × Int)}

set_option maxRecDepth 20000 in
set_option maxHeartbeats 8000000 in
theorem h_sweep (h : Hp nu sz w hb sb b T A P) (s : HpS nu (says P A)) (kp : Nat → Bool) (hm : P.length + 10 * cnt nu (ask nu (says P A)) + 10 ≤ 6144)
    (KP : ∀ w', Still w w' → ∀ u : Nat, u < nu → Calls Tryz.prog 49 #[.int .i64 ((fi nu : Int) + (u : Int) * 8), ptr bl] w' fun e w'' => e = .returned (.bool (kp u)) ∧ Dr w' w'') :
    Calls Tryz.prog 48 #[ptr hb, .func (.func 49) #[] #[ptr bl]] w fun e w' => ∃ n : Nat, e = .returned (.int .i64 n) ∧ n = (goneU kp (plU (ask nu (says P A)) nu)).length ∧ ∃ f, To sz w sb b T A w' f (P.length + 10 * n) ∧ HpS nu f ∧ (∀ u, ask nu f u = if u ∈ goneU kp (plU (ask nu (says P A)) nu) then 0 else ask nu (says P A) u) ∧ (∀ i, fi nu ≤ i → f i = says P A i) ∧ ∀ i, 2 ≤ i → i < 18 → f i = says P A i := by
  have hi := info3
  obtain ⟨i0, hi0⟩ : ∃ i, Tryz.prog.info? 3 = some i := by
    cases h : Tryz.prog.info? 3 with
    | none => rw [h] at hi; simp at hi
    | some i => exact ⟨i, rfl⟩
  rw [hi0] at hi
  simp only [Option.map_some, Option.some.injEq, Prod.mk.injEq] at hi
  have HI := hide (And.intro hi0 hi)
  clear hi hi0
  have PS := h_pieces h s
  have hlu : (plU (ask nu (says P A)) nu).length = cnt nu (ask nu (says P A)) := by rw [plU_len]; rfl
  have hm478 := cnt_le nu (ask nu (says P A))
  have hU : ∀ (u : Nat), u ∈ plU (ask nu (says P A)) nu → u < nu ∧ ask nu (says P A) u ≠ 0 := fun u hu => plU_mem.1 hu
  have hnd := plU_rise (K := ask nu (says P A)) nu
  have hpl : natVals (plP nu (ask nu (says P A)) nu) = natVals (placesU nu (plU (ask nu (says P A)) nu)) := rfl
  rw [hpl] at PS
  generalize plU (ask nu (says P A)) nu = U at *
  generalize cnt nu (ask nu (says P A)) = m at *
  have geo := h.hp.geo.b; have HH := hide h; have HS := hide s; have HPS := hide PS; have HKP := @hide _ KP; have HU := @hide _ hU; have HLU := hide hlu; have HND := hide hnd
  clear h s PS KP hU hlu hnd hpl
  have hnil := eq_nil_keep
  go_enter Tryz.func48, Tryz.ntmps48
  go_wp2_with fail
  refine (unhide HPS).mono ?_
  clear HPS
  rintro e w1 ⟨v, rfl, own, f1⟩
  obtain ⟨ad, cp, ev⟩ : ∃ ad cp, v = .slice ad m cp := by
    rcases row_form own with ⟨ev, e0⟩ | ⟨gg, cp, ev⟩
    · exact ⟨none, 0, by rw [ev, e0]⟩
    · exact ⟨_, cp, ev⟩
  subst ev
  have HOWN := hide own; have HF1 := hide f1
  clear own f1
  go_wp2_with fail
  go_loopw [5, 15] (fun v i wr => ∃ q : Nat, q ≤ m ∧ i = .int .i64 q ∧ wr.ownsRow w1.heap.size 3 1 v (goneU kp (U.take q)).length (natVals (placesU nu (goneU kp (U.take q)))) ∧ Still w1 wr) (fun v i wr => 5000 - (intOf i).toNat)
  case atStart => exact ⟨0, by omega, rfl, World.ownsRow_nil _ _ _ _, Fr.refl _ _⟩
  case round =>
    obtain ⟨q, hq, rfl, own5, hf⟩ := hrel
    by_cases hlt : q < m
    · have own := unhide HOWN
      obtain ⟨gg, ead⟩ : ∃ gg, ad = some ⟨gg, 0, none⟩ := by
        rcases row_form own with ⟨_, e0⟩ | ⟨gg, cp', ev⟩
        · omega
        · injection ev with ev1 ev2 ev3
          exact ⟨gg, ev1⟩
      subst ead
      obtain ⟨x, hx⟩ := ex_at (unhide HLU) hlt
      have hxu := unhide HU x (List.mem_of_getElem? hx)
      have gt := gone_take (kp := kp) hx
      have cq : wr.cell? ⟨gg, q, none⟩ = some (.int .i64 ((fi nu : Int) + (x : Int) * 8)) := by
        refine hf.cell' ?_ (fun x => x)
        rw [own.cellAt q (by omega)]
        simp [natVals, placesU, hx]
      have KC := unhide HKP wr ((unhide HF1).trans' hf (fun _ x => x.elim)) x hxu.1
      have gl : (goneU kp (U.take q)).length ≤ nu := by have := gone_len kp (U.take q); have h2 := List.length_take_le q U; omega
      have HKC := hide KC; have HX := hide (And.intro own5 (And.intro hf (And.intro gt hxu)))
      have x4 := hxu.1
      clear own own5 hf gt hxu KC hx
      go_wp2_with fail
      refine (unhide HKC).mono ?_
      clear HKC
      rintro e w2 ⟨rfl, D⟩
      have D : Dr _ w2 := D
      obtain ⟨own5, hf, gt, hxu⟩ := unhide HX
      have hfd := D.still
      have own6 : w2.ownsRow w1.heap.size 3 1 u5 _ _ := row_still own5 hfd
      have HF2 := hide (hf.trans' hfd (fun _ x => x.elim))
      have lw := hf.size; have lw2 := hfd.size
      cases hk : kp x
      · rw [hk, if_neg (by simp)] at gt
        have HOW := hide own6; have HGT := hide gt
        generalize hgl : (goneU kp (U.take q)).length = len at HOW gl
        generalize hgv : natVals (placesU nu (goneU kp (U.take q))) = vals at HOW
        have HGL := hide hgl; have HGV := hide hgv; have HK := hide hk
        clear hgl hgv own6 own5 hf hfd D gt hxu hk HX
        go_wp2_with (first | (at_builtin; refine wpList_append_own_at _ rfl _ _ 45 rfl w1.heap.size 3 i0 (.int .i64 0) 1 8 Tryz.underlying45 (unhide HI).1 (unhide HI).2.1 (unhide HI).2.2.1 (unhide HI).2.2.2 rfl (by decide) _ len vals rfl ((unhide HOW).alloc _) _ 1 1 [.int .i64 ((fi nu : Int) + (x : Int) * 8)] rfl rfl ?c1 ?c2 ?c3 ?c4 ?c5 ?_) | fail)
        case c1 => exact cell_one_new _ _ _
        case c2 => intro q hq; simp at hq; subst hq; rfl
        case c3 => unfold maxLen; omega
        case c4 => omega
        case c5 => simp <;> omega
        intro v' w6 hown hgrow hnil hloc
        have HG := hide (And.intro hown hgrow)
        clear hown hgrow hnil hloc
        go_wp2
        obtain ⟨hown, hgrow⟩ := unhide HG
        refine ⟨⟨q + 1, by omega, by go_num, ?_, ?_⟩, by simp [intOf]; omega⟩
        · have := hown
          rw [unhide HGT]
          rw [← unhide HGL, ← unhide HGV] at this
          simpa [natVals, placesU] using this
        · exact ((unhide HF2).alloc _).grown hgrow (fun k hk => .inr ((unhide HOW).lt k hk).1)
      · rw [hk, if_pos rfl, List.append_nil] at gt
        have HOW := hide own6; have HGT := hide gt
        clear own6 own5 hf hfd D gt hxu hk HX
        go_wp2
        exact ⟨⟨q + 1, by omega, by go_num, by rw [unhide HGT]; exact unhide HOW, unhide HF2⟩, by simp [intOf]; omega⟩
    · have : m = q := by omega
      subst this
      have htk : U.take m = U := by rw [← unhide HLU]; exact List.take_length
      rw [htk] at own5
      have gin : ∀ x ∈ goneU kp U, x < nu ∧ ask nu (says P A) x ≠ 0 := fun x hx => unhide HU x ((List.mem_filter.1 hx).1)
      have gnd : (goneU kp U).Pairwise (· < ·) := (unhide HND).filter _
      have gl : (goneU kp U).length ≤ nu := by have := gone_len kp U; have h2 := unhide HLU; omega
      obtain ⟨G, hG⟩ : ∃ G, goneU kp U = G := ⟨_, rfl⟩
      rw [hG] at gin gnd gl own5
      have HGG := hide hG
      clear hG
      obtain ⟨n, hn⟩ : ∃ n, G.length = n := ⟨_, rfl⟩
      rw [hn] at own5 gl
      obtain ⟨ad5, cp5, ev⟩ : ∃ ad cp, u5 = .slice ad n cp := by
        rcases row_form own5 with ⟨ev, e0⟩ | ⟨gg, cp, ev⟩
        · exact ⟨none, 0, by rw [ev, e0]⟩
        · exact ⟨_, cp, ev⟩
      subst ev
      have ltf : ∀ k, (Value.slice ad5 n cp5).ownBlock = some k → ¬ tfoot sb b T k := fun k hk ht => by
        have h1 := (own5.lt k hk).1
        have h2 := (unhide HF1).size
        have h3 := (unhide HH).st.lt k ht
        omega
      have HO5 := hide own5; have HFS := hide ((unhide HF1).trans' hf (fun _ x => x.elim)); have HG := @hide _ gin; have HGN := hide gnd; have HN := hide hn; have HLT := @hide _ ltf
      clear own5 hf gin gnd hn ltf
      go_wp2_with fail
      go_loopw [30] (fun i wx => ∃ q : Nat, q ≤ n ∧ i = .int .i64 q ∧ ∃ T' P', Onx wr sb b T wx T' sz A P' false ∧ HpS nu (says P' A) ∧ (∀ u, ask nu (says P' A) u = if u ∈ G.take q then 0 else ask nu (says P A) u) ∧ P'.length ≤ P.length + 10 * q ∧ (∀ i, fi nu ≤ i → says P' A i = says P A i) ∧ ∀ i, 2 ≤ i → i < 18 → says P' A i = says P A i) (fun i wx => 5000 - (intOf i).toNat)
      case atStart => exact ⟨0, by omega, rfl, T, P, Onx.start ((unhide HH).still (unhide HFS)).st, unhide HS, fun u => by simp, by omega, fun _ _ => rfl, fun _ _ _ => rfl⟩
      case round =>
        obtain ⟨q, hq, rfl, T', P', o, s, ak, hpl', hke, hro⟩ := hrel
        by_cases hlt2 : q < n
        · have own := row_kept (unhide HO5) o.fr (unhide HLT)
          obtain ⟨gg, ead⟩ : ∃ gg, ad5 = some ⟨gg, 0, none⟩ := by
            rcases row_form own with ⟨_, e0⟩ | ⟨gg, cp', ev⟩
            · omega
            · injection ev with ev1 ev2 ev3
              exact ⟨gg, ev1⟩
          subst ead
          obtain ⟨x, hx⟩ := ex_at (unhide HN) hlt2
          have hxg := unhide HG x (List.mem_of_getElem? hx)
          have hnt : x ∉ G.take q := take_no (unhide HGN) hx
          have cq := own.cellAt q (by omega)
          rw [show (natVals (placesU nu G))[q]? = some (.int .i64 ((fi nu : Int) + (x : Int) * 8)) by simp [natVals, placesU, hx]] at cq
          have hp := ((unhide HH).still (unhide HFS)).call o
          have hxn : ask nu (says P' A) x ≠ 0 := by rw [ak, if_neg hnt]; exact hxg.2
          have GV := h_give hp s (by have := unhide HLU; have := unhide HN; have hgl := gone_len kp U; rw [unhide HGG] at hgl; omega) x hxn
          have HGV := hide GV; have HX := hide (And.intro o (And.intro ak (And.intro hx (And.intro hpl' (And.intro hke hro)))))
          clear GV hp hxn own hxg hnt hx o s ak hpl' hke hro
          go_wp2_with fail
          refine (unhide HGV).mono ?_
          clear HGV
          rintro e w5 ⟨rfl, f, ⟨T5, P5, o5, ef, l5⟩, gv⟩
          subst ef
          have HY := hide (And.intro o5 (And.intro gv l5))
          clear o5 gv cq l5
          go_wp2
          obtain ⟨o5, gv, l5⟩ := unhide HY
          obtain ⟨o, ak, hx, hpl', hke, hro⟩ := unhide HX
          refine ⟨⟨q + 1, by omega, by go_num, T5, P5, o.trans o5, gv.st, fun u => ?_, by omega, fun i hi => (gv.keep i hi).trans (hke i hi), fun i h1 h2 => (gv.root i h1 h2).trans (hro i h1 h2)⟩, by simp [intOf]; omega⟩
          rw [gv.ak, List.take_add_one, hx]
          unfold setK
          by_cases e : u = x
          · subst e
            simp
          · rw [if_neg e, ak]
            simp [e]
        · have : n = q := by omega
          subst this
          have htk : G.take n = G := by rw [← unhide HN]; exact List.take_length
          rw [htk] at ak
          have HX := hide (And.intro o (And.intro s (And.intro ak (And.intro hpl' (And.intro hke hro)))))
          clear o s ak hpl' hke hro
          go_wp2
          go_ret
          obtain ⟨o, s, ak, hpl', hke, hro⟩ := unhide HX
          exact ⟨n, rfl, by rw [unhide HGG]; exact (unhide HN).symm, _, To.after ⟨T', P', o, rfl, hpl'⟩ (unhide HFS), s, fun u => by rw [unhide HGG]; exact ak u, hke, hro⟩
end
end

section
set_option maxRecDepth 100000 in
set_option maxHeartbeats 2000000 in
theorem t_keep (bl : Nat) (a : Option Addr) (c : Nat) (ts : List Int) (w : World) (hc : w.cell? ⟨bl, 0, none⟩ = some (.slice a ts.length c)) (hS : Sl w 1 a ts.length c (ts.map (Value.int .i64))) (hl : ts.length ≤ 4000) (at_ : Int) :
    Calls Tryz.prog 49 #[.int .i64 at_, ptr bl] w fun e w' => e = .returned (.bool (decide (at_ ∈ ts))) ∧ w' = w := by
  go_enter Tryz.func49, Tryz.ntmps49
  go_wp2_with fail
  go_loopw [4] (fun iv wr => ∃ j : Nat, j ≤ ts.length ∧ iv = .int .i64 j ∧ (∀ x ∈ ts.take j, x ≠ at_) ∧ wr = w) (fun iv _ => ts.length - (intOf iv).toNat)
  case atStart => exact ⟨0, by omega, rfl, fun x hx => by simp at hx, rfl⟩
  case round =>
    obtain ⟨j, hj, rfl, hno, rfl⟩ := hrel
    by_cases hlt : j < ts.length
    · obtain ⟨x, hx⟩ : ∃ x, ts[j]? = some x := ⟨_, List.getElem?_eq_getElem hlt⟩
      obtain ⟨b, o, rfl, c1⟩ := hS.cells j (.int .i64 x) (by rw [List.getElem?_map, hx]; rfl)
      have hlt' : (j : Int) < ts.length := by omega
      have HN := hide (And.intro hno hx)
      clear hS hno
      by_cases he : x = at_
      · have hb : (x == at_) = true := by simp [he]
        clear hx
        generalize hn : ts.length = n at *
        go_wp2_with fail
        go_ret
        have hm : at_ ∈ ts := by rw [← he]; exact List.mem_of_getElem? (unhide HN).2
        exact ⟨by rw [decide_eq_true hm]; rfl, rfl⟩
      · have hb : (x == at_) = false := by simp [he]
        clear hx
        go_wp2_with fail
        obtain ⟨hno, hx⟩ := unhide HN
        refine ⟨⟨j + 1, by omega, by simp, fun y hy => ?_, by first | rfl | trivial⟩, by simp [intOf]; omega⟩
        rw [List.take_add_one, hx] at hy
        rcases List.mem_append.1 hy with hy | hy
        · exact hno y hy
        · have : y = x := by simpa using hy
          rw [this]
          exact he
    · have e : j = ts.length := by omega
      subst e
      have hlt' : ¬ (ts.length : Int) < ts.length := by omega
      have HN := hide hno
      clear hS hno
      generalize hn : ts.length = n at *
      go_wp2_with fail
      go_ret
      have hno := unhide HN
      rw [← hn, List.take_length] at hno
      have hm : at_ ∉ ts := fun h => hno _ h rfl
      exact ⟨by rw [decide_eq_false hm]; rfl, rfl⟩
end

section
def rtcl : List (Nat × Value) → List Value
  | [] => []
  | k :: l => .int .u64 (k.1 : Nat) :: k.2 :: rtcl l
theorem rtcl_at : ∀ {l : List (Nat × Value)} {k : Nat} {p : Nat × Value}, l[k]? = some p → (rtcl l)[k * 2]? = some (.int .u64 (p.1 : Nat))
  | [], _, _, h => by simp at h
  | q :: l, 0, p, h => by
    cases (Option.some.inj h : q = p)
    rfl
  | q :: l, k + 1, p, h => by
    have := rtcl_at (l := l) (k := k) (p := p) (by simpa using h)
    rw [show (k + 1) * 2 = k * 2 + 1 + 1 by omega]
    exact this
theorem elt_I : ElT 3 45 1 := elt_of (bytes := 8) (z := .int .i64 0) infoN (by decide) rfl (by decide) Tryz.underlying45
theorem int_one (l : List Int) : ∀ u ∈ l.map (Value.int .i64), u.oneCell' = true := fun u hu => by
  obtain ⟨t, _, rfl⟩ := List.mem_map.1 hu
  rfl
def Liv (nu : Nat) (ts : List Int) (U : List Nat) : Prop := ∀ x, x ∈ ts ↔ ∃ v ∈ U, x = ((fi nu + 8 * v : Nat) : Int)

section
variable {nu sz : Nat} {w w' w0 : World} {hb sb b : Nat} {T : Tay} {A : Ab} {P : List (Int × Int)}
structure Rq (nu sz : Nat) (f : Nat → Int) (r : Nat) (Q : List Nat) : Prop where
  t : ∃ h u l, r = fi nu + 8 * u ∧ Tr nu sz f h u l Q ∧ Rise l ∧ l.length ≤ 400

set_option maxRecDepth 100000 in
set_option maxHeartbeats 4000000 in
theorem t_sweep (hp : Hp nu sz w hb sb b T A P) (s : HpS nu (says P A)) (a : Option Addr) (c : Nat) (rs : List (Nat × Value)) (Qs : List (List Nat)) (hS : Sl w 2 a rs.length c (rtcl rs)) (hq : Qs.length = rs.length) (hr : ∀ (i : Nat) (p : Nat × Value) (Q : List Nat), rs[i]? = some p → Qs[i]? = some Q → Rq nu sz (says P A) p.1 Q) (hn : rs.length ≤ 5) (hm : P.length + 10 * cnt nu (ask nu (says P A)) + 10 ≤ 6144) :
    Calls Tryz.prog 13 #[ptr sb, ptr hb, .slice a rs.length c] w fun e w' => e = .returned (.tuple #[]) ∧ ∃ g, To sz w sb b T A w' g (P.length + 10 * cnt nu (ask nu (says P A))) ∧ HpS nu g ∧ (∀ u, ask nu g u = if u ∈ Qs.flatten then ask nu (says P A) u else 0) ∧ (∀ i, fi nu ≤ i → g i = says P A i) ∧ ∀ i, 2 ≤ i → i < 18 → g i = says P A i := by
  obtain ⟨bl, hbl⟩ : ∃ bl, w.heap.size = bl := ⟨_, rfl⟩
  obtain ⟨W, hW⟩ : ∃ W, w.alloc (.cells #[.slice none 0 0] 45) = W := ⟨_, rfl⟩
  have fW : Still w W := hW ▸ (Fr.refl _ w).alloc _
  have oW : W.heap[bl]? = some (.cells #[.slice none 0 0] 45 (0, 0)) := by rw [← hbl, ← hW]; exact heap_alloc_new w _
  have HW := hide hW
  have HH := hide (And.intro hp (And.intro s (And.intro hS (And.intro hq (And.intro hr hm)))))
  have HF := hide fW
  clear hW hp s hS hq hr hm fW
  go_enter Tryz.func13, Tryz.ntmps13
  go_wp2_with fail
  rw [unhide HW]
  go_loopw [7] (fun iv wr => ∃ (j : Nat) (ts : List Int) (v : Value), j ≤ rs.length ∧ iv = .int .i64 j ∧ ts.length ≤ 800 * j ∧ Liv nu ts (Qs.take j).flatten ∧ wr.heap[bl]? = some (.cells #[v] 45 (0, 0)) ∧ wr.ownsRow (bl + 1) 3 1 v ts.length (ts.map (Value.int .i64)) ∧ Still w wr) (fun iv _ => rs.length - (intOf iv).toNat)
  case atStart => exact ⟨0, [], _, by omega, rfl, by simp, fun x => by simp, oW, World.ownsRow_nil _ _ _ _, unhide HF⟩
  case round =>
    obtain ⟨j, ts, v, hj, rfl, htl, liv, ov, row, fr⟩ := hrel
    generalize wr = wq at *
    clear wr
    by_cases hlt : j < rs.length
    · have hlt' : (j : Int) < rs.length := by omega
      obtain ⟨p, hp1⟩ : ∃ p, rs[j]? = some p := ⟨_, List.getElem?_eq_getElem hlt⟩
      obtain ⟨hp, s, hS, hq, hr, hm⟩ := unhide HH
      obtain ⟨Q, hQ⟩ : ∃ Q, Qs[j]? = some Q := ⟨_, List.getElem?_eq_getElem (by omega)⟩
      obtain ⟨h, u, l, er, tr, ri, hl⟩ := (hr j p Q hp1 hQ).t
      obtain ⟨b0, o0, rfl, cR0⟩ := hS.cells (j * 2) _ (rtcl_at hp1)
      have hb0 : b0 < bl := by rw [← hbl]; exact World.block_lt_of_cell? _ _ cR0
      have cR := fr.cell' cR0 (fun x => x)
      have cv : wq.cell? ⟨bl, 0, none⟩ = some v := cell_of_obj ov 0
      have zv : wq.frozen? ⟨bl, 0, none⟩ = false := by simp [World.frozen?, ov]
      have few := tr.few
      have PC : ∀ w', Still wq w' → Calls Tryz.prog 37 #[ptr sb, ptr hb, .int .u64 (p.1 : Nat)] w' _ := fun w' f' => by
        rw [er]
        exact y_Pieces ((hp.still fr).still f') s tr ri hl
      have HPC := @hide _ PC
      have ltb : bl < wq.heap.size := World.block_lt_of_cell? _ _ cv
      have HQ := @hide _ (fun (w2 : World) (gg cap : Nat) (ts2 : List Int) (f2 : Still wq w2) (h2 : ∀ x, x ∈ ts2 ↔ ∃ v ∈ Q, x = ((fi nu + 8 * v : Nat) : Int)) (h2l : ts2.length = Q.length) (h2r : w2.ownsRow wq.drew.heap.size 3 1 (.slice (some ⟨gg, 0, none⟩) ts2.length cap) ts2.length (ts2.map (Value.int .i64))) => show ∃ v3 w3, (Builtin.append_ #[45, 45] 45 #[v, .slice (some ⟨gg, 0, none⟩) ts2.length cap]).run Tryz.prog w2 = .ok v3 w3 ∧ ∃ va3 vc3, v3 = .slice va3 (ts.length + ts2.length) vc3 ∧ w3.cell? ⟨bl, 0, none⟩ = some v ∧ w3.frozen? ⟨bl, 0, none⟩ = false ∧ w3.cell? ⟨b0, o0 + j * 2, none⟩ = some (.int .u64 (p.1 : Nat)) ∧ (w3.setCell ⟨bl, 0, none⟩ v3).cell? ⟨b0, o0 + j * 2, none⟩ = some (.int .u64 (p.1 : Nat)) ∧ ((ts ++ ts2).length ≤ 800 * (j + 1) ∧ Liv nu (ts ++ ts2) (Qs.take (j + 1)).flatten ∧ (w3.setCell ⟨bl, 0, none⟩ v3).heap[bl]? = some (.cells #[v3] 45 (0, 0)) ∧ (w3.setCell ⟨bl, 0, none⟩ v3).ownsRow (bl + 1) 3 1 v3 (ts ++ ts2).length ((ts ++ ts2).map (Value.int .i64)) ∧ Still w (w3.setCell ⟨bl, 0, none⟩ v3)) from by
        have row2 := own_still row f2
        obtain ⟨v3, w3, hap, hw3, hgr, hloc⟩ := run_more elt_I 45 row2 (sl_of_row h2r (int_one ts2)) (by omega) (by have := f2.size; omega)
        obtain ⟨va3, vc3, e3⟩ := rows_form hw3
        have f3 : Fr (fun k => v.ownBlock = some k) w2 w3 := (Fr.refl _ w2).grown hgr (fun k hk => .inl hk)
        have nbl : v.ownBlock ≠ some bl := fun e => by have := (row.lt _ e).1; omega
        have nb0 : v.ownBlock ≠ some b0 := fun e => by have := (row.lt _ e).1; omega
        have ov3 := f3.obj (f2.obj ov (fun x => x)) nbl
        have cR3 := f3.cell' (f2.cell' cR (fun x => x)) nb0
        have fs : Fr (fun k => k = bl) w3 (w3.setCell ⟨bl, 0, none⟩ v3) := (Fr.refl (fun k => k = bl) w3).setCell (.inl rfl) _
        refine ⟨v3, w3, hap, va3, vc3, e3, cell_of_obj ov3 0, by simp [World.frozen?, ov3], cR3, fs.cell' cR3 (show b0 ≠ bl by omega), by rw [List.length_append]; omega, fun x => ?_, heap_setCell_same w3 bl 0 _ _ v3 ov3, ?_, ?_⟩
        · rw [List.mem_append, liv, h2, List.take_add_one, hQ]
          simp only [Option.toList_some, List.flatten_append, List.flatten_cons, List.flatten_nil, List.append_nil, List.mem_append]
          constructor
          · rintro (⟨y, h1, h2⟩ | ⟨y, h1, h2⟩)
            · exact ⟨y, .inl h1, h2⟩
            · exact ⟨y, .inr h1, h2⟩
          · rintro ⟨y, h1 | h1, h2⟩
            · exact .inl ⟨y, h1, h2⟩
            · exact .inr ⟨y, h1, h2⟩
        · rw [List.length_append, List.map_append]
          exact ownsRow_setCell_other hw3 (fun e => by have := (hw3.lt _ e).1; have e2 : bl + 1 ≤ bl := this; omega) _
        · refine (((fr.trans' f2 (fun _ x => x.elim)).trans' f3 (fun k hk => .inr (by have := (row.lt k hk).1; omega)))).trans' fs (fun k hk => .inr (by rw [hk, ← hbl]; exact Nat.le_refl _)))
      have q0 : j * 2 = j * 2 := rfl
      have fD : Still wq wq.drew := (Fr.refl _ wq).drewN 1
      have cvd : wq.drew.cell? ⟨bl, 0, none⟩ = some v := cv
      have hj5 : j ≤ 5 := by omega
      clear PC hp s hS hq hr hm er tr ri hl row liv htl few zv hp1 hQ fr ov cR0 q0
      generalize hnn : rs.length = n at *
      go_wp2_with fail
      refine wp_region_held_drew (S := fun w' => w'.cell? ⟨b0, o0 + j * 2, none⟩ = some (.int .u64 (p.1 : Nat))) (by kernel_rfl) cR (fun hHeld => ?_)
      refine take_l 1 (v := ?_) rfl (by kernel_rfl) (by kernel_rfl) (by kernel_rfl) (fun _ _ _ h => h) (Or.inl ⟨by rfl, ?_⟩) hHeld ?_
      rotate_left
      · (intro w hSw; (try dsimp only at hSw); go_simp; (try with_reducible rfl))
      simp only [Act.put, List.setIfInBounds_toArray, List.set_cons_zero, List.set_cons_succ]
      refine take_l 2 (v := ?_) rfl (by kernel_rfl) (by kernel_rfl) (by kernel_rfl) (fun _ _ _ h => h) (Or.inl ⟨by rfl, ?_⟩) hHeld ?_
      rotate_left
      · (intro w hSw; (try dsimp only at hSw); go_simp; (try with_reducible rfl))
      simp only [Act.put, List.setIfInBounds_toArray, List.set_cons_zero, List.set_cons_succ]
      refine take_l 3 (v := ?_) rfl (by kernel_rfl) (by kernel_rfl) (by kernel_rfl) (fun _ _ _ h => h) (Or.inl ⟨by rfl, ?_⟩) hHeld ?_
      rotate_left
      · (intro w hSw; (try dsimp only at hSw); go_simp; (try with_reducible rfl))
      simp only [Act.put, List.setIfInBounds_toArray, List.set_cons_zero, List.set_cons_succ]
      refine take_l 4 (v := ?_) rfl (by kernel_rfl) (by kernel_rfl) (by kernel_rfl) (fun _ _ _ h => h) (Or.inl ⟨by rfl, ?_⟩) hHeld ?_
      rotate_left
      · (intro w hSw; (try dsimp only at hSw); go_simp; (try with_reducible rfl))
      simp only [Act.put, List.setIfInBounds_toArray, List.set_cons_zero, List.set_cons_succ]
      refine take_l 5 (v := .pointer (some ⟨b0, o0 + j * 2, none⟩)) rfl (by kernel_rfl) (by kernel_rfl) (by kernel_rfl) (fun _ _ _ h => h) (Or.inl ⟨by rfl, ?_⟩) hHeld ?_
      · (intro w hSw; go_simp; (try with_reducible rfl))
      simp only [Act.put, List.setIfInBounds_toArray, List.set_cons_zero, List.set_cons_succ]
      refine take_l 6 (v := ?_) rfl (by kernel_rfl) (by kernel_rfl) (by kernel_rfl) (fun _ _ _ h => h) (Or.inl ⟨by rfl, ?_⟩) hHeld ?_
      rotate_left
      · (intro w hSw; (try dsimp only at hSw); go_simp; (try with_reducible rfl))
      simp only [Act.put, List.setIfInBounds_toArray, List.set_cons_zero, List.set_cons_succ]
      refine take_l 7 (v := .int .u64 (p.1 : Nat)) rfl (by kernel_rfl) (by kernel_rfl) (by kernel_rfl) (fun _ _ _ h => h) (Or.inl ⟨by rfl, ?_⟩) hHeld ?_
      · (intro w hSw; (try dsimp only at hSw); go_simp; (try with_reducible rfl))
      simp only [Act.put, List.setIfInBounds_toArray, List.set_cons_zero, List.set_cons_succ]
      clear hHeld
      refine wpAnyH_ready (rs := [0, 8]) (by kernel_rfl) (by simp) ?_
      refine AllReadyH.cons rfl (fun K hK => ?_) (AllReadyH.cons rfl (fun K hK => ?_) AllReadyH.nil)
      · go_simp
        refine hK.out _ _ cR (fun _ => ?_)
        clear hK K
        refine wpAnyH_ready (rs := [8]) (by kernel_rfl) (by simp) ?_
        refine AllReadyH.cons rfl (fun K hK => ?_) AllReadyH.nil
        go_simp
        go_wp2_with fail
        refine (unhide HPC _ fD).mono ?_
        rintro e w2 ⟨gg, cap, ts2, rfl, h2, h2l, h2r, f2d⟩
        have H2L := hide h2l
        clear h2l
        have f2 : Still wq w2 := fD.trans' f2d (fun _ x => x.elim)
        have cv2 := f2.cell' cv (fun x => x)
        refine hK.out _ _ (f2.cell' cR (fun x => x)) (fun _ => ?_)
        clear hK K
        obtain ⟨v3, w3, hap, FX⟩ := unhide HQ w2 gg cap ts2 f2 h2 (unhide H2L) h2r
        refine wpAnyH_ready (rs := [9]) (by kernel_rfl) (by simp) ?_
        refine AllReadyH.cons rfl (fun K hK => ?_) AllReadyH.nil
        refine stp_append rfl (.tmp 14) (.tmp 22) 45 rfl _ _ rfl rfl v3 w3 hap ?_
        obtain ⟨va3, vc3, rfl, y1, y2, y3, y4, y5⟩ := FX
        refine hK.out _ _ y3 (fun _ => ?_)
        clear hK K
        simp only [Act.put, List.setIfInBounds_toArray]
        refine wpAnyH_ready (rs := [10]) (by kernel_rfl) (by simp) ?_
        refine AllReadyH.cons rfl (fun K hK => ?_) AllReadyH.nil
        go_simp
        refine hK.out _ _ y4 (fun _ => ?_)
        clear hK K
        refine wpAnyH_done (by kernel_rfl) ?_ _
        have HY := hide y5
        clear y5 y1 y2 y3 y4 hap
        go_wp2_with fail
        obtain ⟨q1, q2, q3, q4, q5⟩ := unhide HY
        exact ⟨⟨j + 1, ts ++ ts2, _, by omega, by simp, q1, q2, q3, q4, q5⟩, by simp [intOf]; omega⟩
      · go_simp
        go_wp2_with fail
        refine (unhide HPC _ fD).mono ?_
        rintro e w2 ⟨gg, cap, ts2, rfl, h2, h2l, h2r, f2d⟩
        have H2L := hide h2l
        clear h2l
        have f2 : Still wq w2 := fD.trans' f2d (fun _ x => x.elim)
        have cv2 := f2.cell' cv (fun x => x)
        refine hK.out _ _ (f2.cell' cR (fun x => x)) (fun _ => ?_)
        clear hK K
        refine wpAnyH_ready (rs := [0]) (by kernel_rfl) (by simp) ?_
        refine AllReadyH.cons rfl (fun K hK => ?_) AllReadyH.nil
        go_simp
        refine hK.out _ _ (f2.cell' cR (fun x => x)) (fun _ => ?_)
        clear hK K
        obtain ⟨v3, w3, hap, FX⟩ := unhide HQ w2 gg cap ts2 f2 h2 (unhide H2L) h2r
        refine wpAnyH_ready (rs := [9]) (by kernel_rfl) (by simp) ?_
        refine AllReadyH.cons rfl (fun K hK => ?_) AllReadyH.nil
        refine stp_append rfl (.tmp 14) (.tmp 22) 45 rfl _ _ rfl rfl v3 w3 hap ?_
        obtain ⟨va3, vc3, rfl, y1, y2, y3, y4, y5⟩ := FX
        refine hK.out _ _ y3 (fun _ => ?_)
        clear hK K
        simp only [Act.put, List.setIfInBounds_toArray]
        refine wpAnyH_ready (rs := [10]) (by kernel_rfl) (by simp) ?_
        refine AllReadyH.cons rfl (fun K hK => ?_) AllReadyH.nil
        go_simp
        refine hK.out _ _ y4 (fun _ => ?_)
        clear hK K
        refine wpAnyH_done (by kernel_rfl) ?_ _
        have HY := hide y5
        clear y5 y1 y2 y3 y4 hap
        go_wp2_with fail
        obtain ⟨q1, q2, q3, q4, q5⟩ := unhide HY
        exact ⟨⟨j + 1, ts ++ ts2, _, by omega, by simp, q1, q2, q3, q4, q5⟩, by simp [intOf]; omega⟩
    · have e : j = rs.length := by omega
      subst e
      have hlt' : ¬ (rs.length : Int) < rs.length := by omega
      obtain ⟨hp, s, hS, hq, hr, hm⟩ := unhide HH
      have htk : Qs.take rs.length = Qs := by rw [← hq, List.take_length]
      rw [htk] at liv
      obtain ⟨va, vc, rfl⟩ := rows_form row
      have SL := sl_of_row row (int_one ts)
      have cv : wq.cell? ⟨bl, 0, none⟩ = some (.slice va ts.length vc) := cell_of_obj ov 0
      have SW := h_sweep (bl := bl) (hp.still fr) s (fun u => decide (u ∈ Qs.flatten)) hm (fun w' f' u hu => by
        refine (t_keep bl va vc ts w' (f'.cell' cv (fun x => x)) (SL.still f') (by omega) ((fi nu : Int) + (u : Int) * 8)).mono ?_
        rintro e w'' ⟨rfl, rfl⟩
        refine ⟨?_, ⟨0, rfl⟩⟩
        have hiff : ((fi nu : Int) + (u : Int) * 8) ∈ ts ↔ u ∈ Qs.flatten := by
          rw [liv]
          exact ⟨fun ⟨y, h1, h2⟩ => by
            have : y = u := by omega
            exact this ▸ h1, fun h => ⟨u, h, by omega⟩⟩
        rw [decide_eq_decide.2 hiff])
      have HSW := hide SW
      have HL := hide (And.intro fr hp)
      have HS0 := hide s
      clear SW SL cv row ov liv hp s hS hq hr hm fr
      generalize rs.length = n at *
      go_wp2_with fail
      refine (unhide HSW).mono ?_
      rintro e w5 ⟨k, rfl, hk, g, tg, sg, ak, ke, ro⟩
      go_wp2_with fail
      go_end0
      obtain ⟨fr, hp⟩ := unhide HL
      refine ⟨rfl, g, (tg.after fr).le ?_, sg, fun u => ?_, ke, ro⟩
      · have h1 := gone_len (fun u => decide (u ∈ Qs.flatten)) (plU (ask nu (says P A)) nu)
        have h2 : (plU (ask nu (says P A)) nu).length = cnt nu (ask nu (says P A)) := by rw [plU_len]; rfl
        omega
      · rw [ak]
        by_cases hu : u ∈ Qs.flatten
        · rw [if_pos hu, if_neg (fun hm => by
            have := (List.mem_filter.1 hm).2
            simp [hu] at this)]
        · rw [if_neg hu]
          by_cases h0 : ask nu (says P A) u = 0
          · split
            · rfl
            · exact h0
          · have hin : u ∈ goneU (fun u => decide (u ∈ Qs.flatten)) (plU (ask nu (says P A)) nu) := List.mem_filter.2 ⟨plU_mem.2 ⟨((unhide HS0).inv.asks u h0).1, h0⟩, by simp only [decide_eq_false hu]; rfl⟩
            rw [if_pos hin]
end
end

section
def rndPostX (P : Program) (l : Nat) (R : Ending → World → Prop) : Exit → Act → World → Prop
  | .normal, _, w => ∃ v w', (Instr.endRound l none).run P w = .ok v w' ∧ R (.returned v) w'
  | .ret, _, w => ∃ v w', (Instr.endRound l (some .ret)).run P w = .ok v w' ∧ R (.returned v) w'
  | .exit id, _, w => ∃ v w', (Instr.endRound l (some (.exit id))).run P w = .ok v w' ∧ R (.returned v) w'
  | .panic ch, a, w => a.defers = [] ∧ R (.panicked ch) w
  | _, _, _ => False

theorem round_of_wpX {F : Fence} {n : Nat} {P : Program} {l : Nat} {f : FuncId} {tmps : Array Value} {assign body : Code} {w : World} {R : Ending → World → Prop} (hF : F.fn f) (hfn : ∃ fn, P.funcs[f]? = some fn)
    (h : assign.wpIn (F.inRound l) n P (Exit.then (fun a₁ w₁ => ∃ w₂, (Instr.beginRound l).run P w₁ = .ok () w₂ ∧ body.wpIn (F.inRound l) n P (rndPostX P l R) a₁ w₂) (fun _ _ _ => False))
      { tmps := tmps, defers := [] } w) :
    RoundIn F n P l f tmps assign body w R := by
  refine ⟨hF, fun c cs hr => ?_⟩
  let b : Frame := { (default : Frame) with fn := f, kind := .normal, roundOf := some l }
  have hb0 : Frame.round l f tmps assign body .normal = b.atR { tmps := tmps, defers := [] } [.code assign, .beginRound, .code body] := by
    simp [Frame.round, Frame.atR, b]
  have hr' : (F.inRound l).room ((c :: cs).length + 1 + n) := hr
  have hF' : (F.inRound l).fn b.fn := hF
  obtain ⟨e, a₁, w₁, hq, harr⟩ := h b [.beginRound, .code body] (c :: cs) rfl hF' hr'
  rw [← hb0] at harr
  cases e with
  | normal =>
    obtain ⟨w₂, hbr, hbody⟩ := hq
    have s1 : StepsIn (Machine.fenced P (F.inRound l)) P (lone (b.atR a₁ [.beginRound, .code body]) (c :: cs) w₁) (lone (b.atR a₁ [.code body]) (c :: cs) w₂) :=
      .one (fenced_calm (fr := b.atR a₁ [.beginRound, .code body]) hF' hr' rfl) (stepR_beginRound rfl hbr)
    obtain ⟨e₂, a₂, w₃, hq₂, harr₂⟩ := hbody b [] (c :: cs) rfl hF' hr'
    cases e₂ with
    | normal =>
      obtain ⟨v, w₄, hend, hR⟩ := hq₂
      exact ⟨.returned v, w₄, hR, (StepsIn.trans harr s1).trans (StepsIn.trans harr₂ (.one (fenced_calm (fr := b.atR a₂ []) hF' hr' rfl) (stepR_round_end rfl rfl hend)))⟩
    | ret =>
      obtain ⟨v, w₄, hend, hR⟩ := hq₂
      obtain ⟨k₁, hs⟩ := harr₂.2 rfl
      exact ⟨.returned v, w₄, hR, (StepsIn.trans harr s1).trans (StepsIn.trans hs (.one (fenced_calm (fr := b.atR a₂ (.code .ret :: k₁)) hF' hr' rfl) (stepR_round_ret rfl rfl hend)))⟩
    | panic ch =>
      obtain ⟨hd, hR⟩ := hq₂
      obtain ⟨todo, hs⟩ := harr₂
      have hl : Frame.leaving P { b.atR a₂ todo with mode := .panicking ch } w₃ (.panicked ch) := ⟨rfl, hd, hfn⟩
      exact ⟨.panicked ch, w₃, hR, (StepsIn.trans harr s1).trans (StepsIn.trans hs (.one (fenced_leaving (n := n) hF' hr' hl) (step_leave_panicked hl)))⟩
    | exit id =>
      obtain ⟨v, w₄, hend, hR⟩ := hq₂
      obtain ⟨k₁, hk, hs⟩ := harr₂.2 rfl rfl
      exact ⟨.returned v, w₄, hR, (StepsIn.trans harr s1).trans (StepsIn.trans hs (.one (fenced_calm (fr := b.atR a₂ (.code (.exit id) :: k₁)) hF' hr' rfl) (stepR_round_exit rfl rfl hk hend)))⟩
    | goto t => exact hq₂.elim
    | outgrown => exact hq₂.elim
  | exit id => exact hq.elim
  | goto t => exact hq.elim
  | ret => exact hq.elim
  | panic chain => exact hq.elim
  | outgrown => exact hq.elim
end
end Go.Proofs.YtkaplgmjdfmpmaaGreatDoor
