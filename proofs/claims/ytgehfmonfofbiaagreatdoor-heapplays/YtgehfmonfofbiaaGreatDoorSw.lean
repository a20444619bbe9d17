/- Sweep: every piece that is not to be kept is given back. -/
import Derived.Test.YtgehfmonfofbiaaGreatDoorSwC
namespace Go.Proofs.YtgehfmonfofbiaaGreatDoor
open Go.RowKit

theorem eq_nil_keep (g : Nat) (ca : Array Value) (w : World) : (binOp .eql 59 (.func (.func g) #[] ca) .nilFunc).run Tryz.prog w = .ok (.bool false) w := by kernel_rfl

/-- Units that are not kept. -/
def goneU (kp : Nat → Bool) (U : List Nat) : List Nat := U.filter fun u => !kp u
def placesU (U : List Nat) : List Nat := U.map fun u => 160 + u * 8
theorem gone_take {kp : Nat → Bool} {U : List Nat} {q x : Nat} (h : U[q]? = some x) : goneU kp (U.take (q + 1)) = goneU kp (U.take q) ++ (if kp x then [] else [x]) := by
  unfold goneU
  rw [List.take_add_one, h, List.filter_append]
  cases e : kp x <;> simp [e]
theorem gone_len (kp : Nat → Bool) (U : List Nat) : (goneU kp U).length ≤ U.length := List.length_filter_le _ _

theorem take_no {G : List Nat} (h : G.Pairwise (· < ·)) {q x : Nat} (hx : G[q]? = some x) : x ∉ G.take q := fun hm => by
  obtain ⟨a, e⟩ := List.getElem?_eq_some_iff.1 hx
  obtain ⟨k, hk, ek⟩ := List.mem_iff_getElem.1 hm
  have hk' : k < q := by rw [List.length_take] at hk; omega
  rw [List.getElem_take] at ek
  have := List.pairwise_iff_getElem.1 h k q (by omega) a hk'
  omega

variable {w w0 : World} {hb sb b bl : Nat} {T : Tay} {A : Ab} {P : List (Int × Int)}

set_option maxRecDepth 20000 in
set_option maxHeartbeats 8000000 in
theorem h_sweep (h : Hp w hb sb b T A P) (s : HpS (says P A)) (kp : Nat → Bool) (ls : List (Nat × Nat)) (lst : Lists (ask (says P A)) ls)
    (KP : ∀ w', Still w w' → ∀ u : Nat, u < 478 → Calls Tryz.prog 41 #[.int .i64 (160 + (u : Int) * 8), ptr bl] w' fun e w'' => e = .returned (.bool (kp u)) ∧ Dr w' w'') :
    Calls Tryz.prog 40 #[ptr hb, .func (.func 41) #[] #[ptr bl]] w fun e w' => ∃ n : Nat, e = .returned (.int .i64 n) ∧ n = (goneU kp (plU (ask (says P A)) 478)).length ∧ ∃ f, To w sb b T A w' f ∧ HpS f ∧ (∀ u, ask f u = if u ∈ goneU kp (plU (ask (says P A)) 478) then 0 else ask (says P A) u) ∧ ∃ lr, Lists (ask f) lr ∧ lr.length + n = ls.length := by
  have hi := info3
  obtain ⟨i0, hi0⟩ : ∃ i, Tryz.prog.info? 3 = some i := by
    cases h : Tryz.prog.info? 3 with
    | none => rw [h] at hi; simp at hi
    | some i => exact ⟨i, rfl⟩
  rw [hi0] at hi
  simp only [Option.map_some, Option.some.injEq, Prod.mk.injEq] at hi
  have HI := hide (And.intro hi0 hi)
  clear hi hi0
  have PS := h_pieces h s
  have hlu : (plU (ask (says P A)) 478).length = cnt (ask (says P A)) := by rw [plU_len]; rfl
  have hm478 := cnt_le (ask (says P A))
  have hU : ∀ (u : Nat), u ∈ plU (ask (says P A)) 478 → u < 478 ∧ ask (says P A) u ≠ 0 := fun u hu => plU_mem.1 hu
  have hnd := plU_rise (K := ask (says P A)) 478
  have hpl : natVals (plP (ask (says P A)) 478) = natVals (placesU (plU (ask (says P A)) 478)) := rfl
  rw [hpl] at PS
  generalize plU (ask (says P A)) 478 = U at *
  generalize cnt (ask (says P A)) = m at *
  have HLS := hide lst; have HH := hide h; have HS := hide s; have HPS := hide PS; have HKP := @hide _ KP; have HU := @hide _ hU; have HLU := hide hlu; have HND := hide hnd
  clear h s PS KP hU hlu hnd hpl lst
  have hnil := eq_nil_keep
  go_enter Tryz.func40, Tryz.ntmps40
  go_wp2_with fail
  refine (unhide HPS).mono ?_
  clear HPS
  rintro e w1 ⟨v, rfl, own, f1⟩
  obtain ⟨ad, cp, ev⟩ : ∃ ad cp, v = .slice ad m cp := by
    rcases row_form own with ⟨ev, e0⟩ | ⟨gg, cp, ev⟩
    · exact ⟨none, 0, by rw [ev, e0]⟩
    · exact ⟨_, cp, ev⟩
  subst ev
  have HOWN := hide own; have HF1 := hide f1
  clear own f1
  go_wp2_with fail
  go_loopw [5, 15] (fun v i wr => ∃ q : Nat, q ≤ m ∧ i = .int .i64 q ∧ wr.ownsRow w1.heap.size 3 1 v (goneU kp (U.take q)).length (natVals (placesU (goneU kp (U.take q)))) ∧ Still w1 wr) (fun v i wr => 500 - (intOf i).toNat)
  case atStart => exact ⟨0, by omega, rfl, World.ownsRow_nil _ _ _ _, Fr.refl _ _⟩
  case round =>
    obtain ⟨q, hq, rfl, own5, hf⟩ := hrel
    by_cases hlt : q < m
    · have own := unhide HOWN
      obtain ⟨gg, ead⟩ : ∃ gg, ad = some ⟨gg, 0, none⟩ := by
        rcases row_form own with ⟨_, e0⟩ | ⟨gg, cp', ev⟩
        · omega
        · injection ev with ev1 ev2 ev3
          exact ⟨gg, ev1⟩
      subst ead
      obtain ⟨x, hx⟩ := ex_at (unhide HLU) hlt
      have hxu := unhide HU x (List.mem_of_getElem? hx)
      have gt := gone_take (kp := kp) hx
      have cq : wr.cell? ⟨gg, q, none⟩ = some (.int .i64 (160 + (x : Int) * 8)) := by
        refine hf.cell' ?_ (fun x => x)
        rw [own.cellAt q (by omega)]
        simp [natVals, placesU, hx]
      have KC := unhide HKP wr ((unhide HF1).trans' hf (fun _ x => x.elim)) x hxu.1
      have gl : (goneU kp (U.take q)).length ≤ 478 := by have := gone_len kp (U.take q); have h2 := List.length_take_le q U; omega
      have HKC := hide KC; have HX := hide (And.intro own5 (And.intro hf (And.intro gt hxu)))
      have x4 := hxu.1
      clear own own5 hf gt hxu KC hx
      go_wp2_with fail
      refine (unhide HKC).mono ?_
      clear HKC
      rintro e w2 ⟨rfl, D⟩
      have D : Dr _ w2 := D
      obtain ⟨own5, hf, gt, hxu⟩ := unhide HX
      have hfd := D.still
      have own6 : w2.ownsRow w1.heap.size 3 1 u5 _ _ := row_still own5 hfd
      have HF2 := hide (hf.trans' hfd (fun _ x => x.elim))
      have lw := hf.size; have lw2 := hfd.size
      cases hk : kp x
      · rw [hk, if_neg (by simp)] at gt
        have HOW := hide own6; have HGT := hide gt
        generalize hgl : (goneU kp (U.take q)).length = len at HOW gl
        generalize hgv : natVals (placesU (goneU kp (U.take q))) = vals at HOW
        have HGL := hide hgl; have HGV := hide hgv; have HK := hide hk
        clear hgl hgv own6 own5 hf hfd D gt hxu hk HX
        go_wp2_with (first | (at_builtin; refine wpList_append_own_at _ rfl _ _ 22 rfl w1.heap.size 3 i0 (.int .i64 0) 1 8 Tryz.underlying22 (unhide HI).1 (unhide HI).2.1 (unhide HI).2.2.1 (unhide HI).2.2.2 rfl (by decide) _ len vals rfl ((unhide HOW).alloc _) _ 1 1 [.int .i64 (160 + (x : Int) * 8)] rfl rfl ?c1 ?c2 ?c3 ?c4 ?c5 ?_) | fail)
        case c1 => exact cell_one_new _ _ _
        case c2 => intro q hq; simp at hq; subst hq; rfl
        case c3 => unfold maxLen; omega
        case c4 => omega
        case c5 => simp <;> omega
        intro v' w6 hown hgrow hnil hloc
        have HG := hide (And.intro hown hgrow)
        clear hown hgrow hnil hloc
        go_wp2
        obtain ⟨hown, hgrow⟩ := unhide HG
        refine ⟨⟨q + 1, by omega, by go_num, ?_, ?_⟩, by simp [intOf]; omega⟩
        · have := hown
          rw [unhide HGT]
          rw [← unhide HGL, ← unhide HGV] at this
          simpa [natVals, placesU] using this
        · exact ((unhide HF2).alloc _).grown hgrow (fun k hk => .inr ((unhide HOW).lt k hk).1)
      · rw [hk, if_pos rfl, List.append_nil] at gt
        have HOW := hide own6; have HGT := hide gt
        clear own6 own5 hf hfd D gt hxu hk HX
        go_wp2
        exact ⟨⟨q + 1, by omega, by go_num, by rw [unhide HGT]; exact unhide HOW, unhide HF2⟩, by simp [intOf]; omega⟩
    · have : m = q := by omega
      subst this
      have htk : U.take m = U := by rw [← unhide HLU]; exact List.take_length
      rw [htk] at own5
      have gin : ∀ x ∈ goneU kp U, x < 478 ∧ ask (says P A) x ≠ 0 := fun x hx => unhide HU x ((List.mem_filter.1 hx).1)
      have gnd : (goneU kp U).Pairwise (· < ·) := (unhide HND).filter _
      have gl : (goneU kp U).length ≤ 478 := by have := gone_len kp U; have h2 := unhide HLU; omega
      obtain ⟨G, hG⟩ : ∃ G, goneU kp U = G := ⟨_, rfl⟩
      rw [hG] at gin gnd gl own5
      have HGG := hide hG
      clear hG
      obtain ⟨n, hn⟩ : ∃ n, G.length = n := ⟨_, rfl⟩
      rw [hn] at own5 gl
      obtain ⟨ad5, cp5, ev⟩ : ∃ ad cp, u5 = .slice ad n cp := by
        rcases row_form own5 with ⟨ev, e0⟩ | ⟨gg, cp, ev⟩
        · exact ⟨none, 0, by rw [ev, e0]⟩
        · exact ⟨_, cp, ev⟩
      subst ev
      have ltf : ∀ k, (Value.slice ad5 n cp5).ownBlock = some k → ¬ tfoot sb b T k := fun k hk ht => by
        have h1 := (own5.lt k hk).1
        have h2 := (unhide HF1).size
        have h3 := (unhide HH).st.lt k ht
        omega
      have HO5 := hide own5; have HFS := hide ((unhide HF1).trans' hf (fun _ x => x.elim)); have HG := @hide _ gin; have HGN := hide gnd; have HN := hide hn; have HLT := @hide _ ltf
      clear own5 hf gin gnd hn ltf
      go_wp2_with fail
      go_loopw [30] (fun i wx => ∃ q : Nat, q ≤ n ∧ i = .int .i64 q ∧ ∃ T' P', Onx wr sb b T wx T' 3984 A P' false ∧ HpS (says P' A) ∧ (∀ u, ask (says P' A) u = if u ∈ G.take q then 0 else ask (says P A) u) ∧ ∃ lr, Lists (ask (says P' A)) lr ∧ lr.length + q = ls.length) (fun i wx => 500 - (intOf i).toNat)
      case atStart => exact ⟨0, by omega, rfl, T, P, Onx.start ((unhide HH).still (unhide HFS)).st, unhide HS, fun u => by simp, ls, unhide HLS, rfl⟩
      case round =>
        obtain ⟨q, hq, rfl, T', P', o, s, ak, lr, hlr, hll⟩ := hrel
        by_cases hlt2 : q < n
        · have own := row_kept (unhide HO5) o.fr (unhide HLT)
          obtain ⟨gg, ead⟩ : ∃ gg, ad5 = some ⟨gg, 0, none⟩ := by
            rcases row_form own with ⟨_, e0⟩ | ⟨gg, cp', ev⟩
            · omega
            · injection ev with ev1 ev2 ev3
              exact ⟨gg, ev1⟩
          subst ead
          obtain ⟨x, hx⟩ := ex_at (unhide HN) hlt2
          have hxg := unhide HG x (List.mem_of_getElem? hx)
          have hnt : x ∉ G.take q := take_no (unhide HGN) hx
          have cq := own.cellAt q (by omega)
          rw [show (natVals (placesU G))[q]? = some (.int .i64 (160 + (x : Int) * 8)) by simp [natVals, placesU, hx]] at cq
          have hp := ((unhide HH).still (unhide HFS)).call o
          have hxn : ask (says P' A) x ≠ 0 := by rw [ak, if_neg hnt]; exact hxg.2
          have GV := h_give hp s x hxn
          obtain ⟨ix, hix, eix⟩ := List.mem_iff_getElem.1 (hlr.all x hxn)
          have hdr := hlr.drop s.inv (i := ix) (by rw [List.getElem?_eq_getElem hix, eix])
          have hdl : (lr.eraseIdx ix).length + (q + 1) = ls.length := by rw [List.length_eraseIdx_of_lt hix]; omega
          have HGV := hide GV; have HX := hide (And.intro o (And.intro ak (And.intro hx (And.intro hdr hdl))))
          clear GV hp hxn own hxg hnt hx o s ak hdr hdl hlr hll hix eix
          go_wp2_with fail
          refine (unhide HGV).mono ?_
          clear HGV
          rintro e w5 ⟨rfl, f, ⟨T5, P5, o5, ef⟩, gv⟩
          subst ef
          have HY := hide (And.intro o5 gv)
          clear o5 gv cq
          go_wp2
          obtain ⟨o5, gv⟩ := unhide HY
          obtain ⟨o, ak, hx, hdr, hdl⟩ := unhide HX
          refine ⟨⟨q + 1, by omega, by go_num, T5, P5, o.trans o5, gv.st, fun u => ?_, _, by rw [gv.ak]; exact hdr, hdl⟩, by simp [intOf]; omega⟩
          rw [gv.ak, List.take_add_one, hx]
          unfold setK
          by_cases e : u = x
          · subst e
            simp
          · rw [if_neg e, ak]
            simp [e]
        · have : n = q := by omega
          subst this
          have htk : G.take n = G := by rw [← unhide HN]; exact List.take_length
          rw [htk] at ak
          have HX := hide (And.intro o (And.intro s (And.intro ak (And.intro hlr hll))))
          clear o s ak hlr hll
          go_wp2
          go_ret
          obtain ⟨o, s, ak, hlr, hll⟩ := unhide HX
          exact ⟨n, rfl, by rw [unhide HGG]; exact (unhide HN).symm, _, To.after ⟨T', P', o, rfl⟩ (unhide HFS), s, fun u => by rw [unhide HGG]; exact ak u, _, hlr, hll⟩
end Go.Proofs.YtgehfmonfofbiaaGreatDoor
