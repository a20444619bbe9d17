/- Joined: Ro Bk. -/
import Derived.Test.YtflnaiijdpihcaaGreatDoorP01
import Derived.Test.YtflnaiijdpihcaaGreatDoorP11
import Derived.Test.YtflnaiijdpihcaaGreatDoorP13
namespace Go.Proofs.YtflnaiijdpihcaaGreatDoor
open Go.RowKit

section
section
variable {nu sz : Nat} {w w' w0 : World} {hb sb b : Nat} {T : Tay} {A : Ab} {P : List (Int × Int)}

theorem keptA (w : World) (a : Obj) : Still w (w.alloc a).drew := ((Fr.refl (fun _ => False) w).alloc a).drewN 1
theorem kept3 (w : World) (a b c : Obj) : Still w (((w.alloc a).alloc b).alloc c).drew.drew := (((((Fr.refl (fun _ => False) w).alloc a).alloc b).alloc c).drewN 1).drewN 1

def gwN (g : Nat → Int) (a : Nat) (wd : Nat → Nat) (o j : Nat) : Nat → Int := fun i => if a ≤ i ∧ i < a + j then ((wd (o + (i - a)) : Nat) : Int) else g i
theorem gw_zero (g : Nat → Int) (a : Nat) (wd : Nat → Nat) (o : Nat) : gwN g a wd o 0 = g := by
  funext i; unfold gwN; rw [if_neg (by omega)]
theorem gw_step (g : Nat → Int) (a : Nat) (wd : Nat → Nat) (o j : Nat) : upd (gwN g a wd o j) (a + j) ((wd (o + j) : Nat) : Int) = gwN g a wd o (j + 1) := by
  funext i
  by_cases h : i = a + j
  · subst h
    rw [upd_same]
    unfold gwN
    rw [if_pos (by omega), show a + j - a = j by omega]
  · rw [upd_other _ _ h]
    unfold gwN
    by_cases h2 : a ≤ i ∧ i < a + j
    · rw [if_pos h2, if_pos (by omega)]
    · rw [if_neg h2, if_neg (by omega)]

theorem Asks.own {nu : Nat} {f g : Nat → Int} (e : ask nu g = ask nu f) : ∀ {fr : Bool} {n : Nat} {us : List Nat}, Asks nu f fr n us → Asks nu g fr n us
  | _, _, [], _ => trivial
  | _, _, _ :: _, h => ⟨by rw [e]; exact h.1, Asks.own e h.2⟩
def Pte (nu sz : Nat) (W : World) (hb sb b : Nat) (T' : Tay) (A : Ab) (w' : World) (q : Nat) (g : Nat → Int) (m : Nat) : Prop := ∃ T5 P5, Onx W sb b T' w' T5 sz A P5 false ∧ says P5 A = g ∧ P5.length ≤ m ∧ ¬ tfoot sb b T5 q ∧ Hp nu sz w' hb sb b T5 A P5

structure Mde (nu : Nat) (f : Nat → Int) (us : List Nat) (g : Nat → Int) : Prop where
  st : HpS nu g
  tk : ∃ xs f2, Tkf nu f us xs f2 ∧ ask nu g = ask nu f2 ∧ (∀ x ∈ xs, 1 ≤ x) ∧ ∀ i, (∀ v ∈ us, i < fi nu + 8 * v ∨ fi nu + 8 * v + ask nu f2 v ≤ i) → g i = f2 i

theorem Nats.fr {k : IntKind} {a : Option Addr} {n : Nat} {bt : Nat → Nat} (h : Nats k w a n bt) {F : Nat → Prop} (f : Fr F w w') (hn : ∀ x, a = some x → ¬ F x.block) : Nats k w' a n bt := fun i hi => by
  obtain ⟨xb, xo, e, c⟩ := h i hi
  exact ⟨xb, xo, e, f.cell' c (hn ⟨xb, xo, none⟩ e)⟩

set_option maxRecDepth 20000 in
set_option maxHeartbeats 4000000 in
theorem r_make (h : Hp nu sz w hb sb b T A P) (s : HpS nu (says P A)) {a : Option Addr} {n cp : Nat} {bt : Nat → Nat} (hN : Nats .u8 w a n bt) (hb8 : ∀ i, i < n → bt i < 256) (n4 : n ≤ 4096) (hm : P.length + 2000 ≤ 6144)
    (na : ∀ x, a = some x → ¬ tfoot sb b T x.block) (room : ∀ us xs f, Takn nu (says P A) us xs f → (∀ x ∈ xs, 1 ≤ x ∧ x ≤ 64) → us.length < 17 → ∃ j c, 3 ≤ j ∧ j < 7 ∧ fre nu f j c = true) :
    Calls Tryz.prog 13 #[ptr sb, ptr hb, .slice a n cp] w fun e w' => ∃ u us g, e = .returned (.int .i64 (fi nu + 8 * u : Nat)) ∧ To sz w sb b T A w' g (P.length + 2000) ∧ RecS nu sz g u us n 1 (wordN bt n) ∧ Mde nu (says P A) (u :: us) g := by
  have PL := r_planned n n4 w
  have big : ((4096 : Int) < n) = False := by simp; omega
  obtain ⟨L, hL⟩ : ∃ L, (chn true n 17).length = L := ⟨_, rfl⟩
  have hl1 : 1 ≤ L := by rw [← hL]; exact chn_one true n 16
  have hl10 : L ≤ 17 := by rw [← hL]; exact chn_len true n 17
  rw [hL] at PL
  have TK : ∀ w1 g cap, Still w w1 → w.heap.size ≤ g → PR w1 w.heap.size (.slice (some ⟨g, 0, none⟩) L cap) (chn true n 17) → Calls Tryz.prog 53 #[ptr hb, .slice (some ⟨g, 0, none⟩) L cap] w1 _ := fun w1 g cap f1 hg pr =>
    r_take (h.still f1) s hL pr hl1 (by omega) (fun p hp => by have := chn_le true n 17 p hp; omega) (by omega) (fun x => by have := h.st.lt g x; omega) (by have := h.lth; omega) (by have := h.lt0; omega) (fun us xs f t hx hlt => room us xs f t hx (by omega))
  have HPL := hide PL; have HTK := @hide _ TK; have HH := hide h; have HS := hide s; have HN := hide (And.intro hN (And.intro hb8 na)); have HL := hide hL
  clear PL TK h s hN hb8 na room hL
  go_enter Tryz.func13, Tryz.ntmps13
  go_wp2_with fail
  refine (unhide HPL).mono ?_
  clear HPL
  rintro e w1 ⟨g, cap, rfl, pr1, f1⟩
  have gw : w.heap.size ≤ g := (World.ownsRow.lt pr1 g rfl).1
  have TK1 := hide (unhide HTK w1 g cap f1 gw pr1)
  have HF1 := hide (And.intro f1 gw); have HP1 := hide pr1
  clear f1 pr1 HTK
  go_wp2_with fail
  refine (unhide TK1).mono ?_
  clear TK1
  rintro e w2 ⟨rfl, T2, P2, vs, hv, o2, el2, s2, tk2, pr2⟩
  have o2' : Onx w sb b T w2 T2 sz A P2 false := ⟨o2.st, ((unhide HF1).1.mono (G := tfoot sb b T) (fun _ hk => hk.elim)).trans' o2.fr (fun k hk => by
    rcases hk with hk | hk
    · exact .inl hk
    · subst hk; exact .inr (unhide HF1).2), fun k hk => (o2.sub k hk).imp id (fun x => Nat.le_trans (unhide HF1).1.size x)⟩
  obtain ⟨hN, hb8, na⟩ := unhide HN
  have PK := pack_ok a n cp bt w2 (hN.fr o2'.fr na) hb8 (by omega)
  have hvl : vs.length = (chn true n (16 + 1)).length := by rw [hv]; exact (unhide HL).symm
  have hb9 : bhN true n ≤ 248 * 16 := by unfold bhN ahd; simp; omega
  have epc := placed_chain nu true n 16 vs hb9 hvl
  rw [hv] at epc
  rw [epc] at pr2
  have HE := hide (And.intro (ends_of true n 16 vs hb9 hvl) hvl)
  have ng2 := o2.other (k := g) (World.ownsRow.lt (unhide HP1) g rfl).2 (fun x => by have := (unhide HH).st.lt g x; have := (unhide HF1).2; omega)
  have HNG := hide ng2
  have tf := tk2.facts (unhide HS) (fun x hx => by obtain ⟨p, _, rfl⟩ := List.mem_map.1 hx; exact (by omega : 1 ≤ 32))
  have as0 := asks_of true n 17 vs hvl tf.is
  have vlt : ∀ v ∈ vs, ask nu (says P2 A) v ≠ 0 ∧ v < nu := fun v hv' => by
    obtain ⟨k, hk⟩ := List.getElem?_of_mem hv'
    have hkl := (List.getElem?_eq_some_iff.1 hk).1
    obtain ⟨x, hx⟩ : ∃ x, ((chn true n 17).map fun _ => 32)[k]? = some x := ⟨_, List.getElem?_eq_getElem (by rw [← tf.len]; exact hkl)⟩
    have e := tf.is k v x hk hx
    obtain ⟨p, _, rfl⟩ := List.mem_map.1 (List.mem_of_getElem? hx)
    have hne : ask nu (says P2 A) v ≠ 0 := by rw [e]; omega
    exact ⟨hne, (s2.inv.asks v hne).1⟩
  have HTF := hide (And.intro tf as0); have HVL := @hide _ vlt
  clear tf as0 vlt
  have HPK := hide PK; have HX2 := hide (And.intro o2' (And.intro el2 (And.intro s2 (And.intro tk2 (And.intro pr2 hv)))))
  clear PK o2 o2' el2 s2 tk2 pr2 hN hb8 na epc hvl hb9 hv HF1
  go_wp2_with fail
  refine (unhide HPK).mono ?_
  clear HPK
  rintro e w3 ⟨rfl, mm⟩
  have f23 : Still w2 w3 := Fr.ofBelow mm.bel
  have hnd : need n = (n + 7) / 8 + 1 := by unfold need; omega
  have sl : ∀ w, (Instr.slice 98 (.slice (some ⟨w2.heap.size, 0, none⟩) (need n) (need n)) (some (.int .i64 1)) none none).run Tryz.prog w = .ok (.slice (cutW (some ⟨w2.heap.size, 0, none⟩) (need n) 1) (need n - 1) (need n - 1)) w := fun w => slice_fromW _ _ _ 1 w (by omega)
  have nw := cut_natsW 1 (Nat.le_refl _) mm.nats
  have nwf : (fun t => packF bt n (1 + t)) = fun t => wordN bt n (0 + t) := by
    funext t
    unfold packF
    rw [if_neg (by omega)]
    congr 1
    omega
  rw [nwf] at nw
  have bk : ∀ x, cutW (some ⟨w2.heap.size, 0, none⟩) (need n) 1 = some x → x.block = w2.heap.size := fun x hx => by
    obtain ⟨y, hy, e⟩ := cutW_block hx
    injection hy with hy
    rw [e, ← hy]
  obtain ⟨r0, hr0⟩ : ∃ r0, (n + 7) / 8 = r0 := ⟨_, rfl⟩
  have hr1 : need n - 1 = r0 := by omega
  rw [hr1] at sl nw
  rw [hr0] at hnd
  rw [hnd] at sl nw bk ⊢
  generalize cutW (some ⟨w2.heap.size, 0, none⟩) (r0 + 1) 1 = ad0 at *
  have lt23 : w2.heap.size < w3.heap.size := by
    obtain ⟨xb, xo, e, c⟩ := mm.nats 0 (by omega)
    have := World.block_lt_of_cell? _ _ c
    injection e with e; injection e with e _ _
    rw [e]; exact this
  have nt2 : ¬ tfoot sb b T2 w2.heap.size := fun x => by have := (unhide HX2).1.st.lt _ x; omega
  have HM := hide (And.intro nw (And.intro bk (And.intro f23 hr0))); have HLT := hide (And.intro lt23 nt2)
  have hr5 : r0 ≤ 512 := by omega
  clear mm nw bk nwf hr1 hnd f23 hr0 lt23 nt2
  go_wp2_with fail
  go_loopw [8, 28] (fun v8 iv wr => ∃ (m : Nat) (ad : Option Addr) (T' : Tay) (P' : List (Int × Int)) (fr : Bool) (n' o r : Nat) (rest : List Nat), m ≤ L ∧ iv = .int .i64 m ∧ v8 = .slice ad r r ∧ r = (n' + 7) / 8 ∧ Onx w3 sb b T2 wr T' sz A P' false ∧ P'.length ≤ P2.length + 32 * m ∧ MkI nu (says P2 A) n (wordN bt n) vs (says P' A) m fr n' o rest ∧ Asks nu (says P2 A) fr n' rest ∧ Nats .u64 wr ad r (fun t => wordN bt n (o + t)) ∧ (∀ x, ad = some x → x.block = w2.heap.size)) (fun _ iv wr => L - (intOf iv).toNat)
  case atStart =>
    obtain ⟨nw, bk, f23, hr0⟩ := unhide HM
    obtain ⟨o2, el2, s2, tk2, pr2, hv⟩ := unhide HX2
    exact ⟨0, ad0, T2, P2, true, n, 0, r0, vs, by omega, rfl, rfl, hr0.symm, Onx.start (o2.st.still f23), by omega, MkI.start (unhide HE).1 n4, (unhide HTF).2, nw, bk⟩
  case round =>
    obtain ⟨m, ad, T', P', fr, n', o, r, rest, hmL, rfl, rfl, hr, on, el, mk, asq, nw, bk⟩ := hrel
    generalize wr = wq at *
    clear wr
    by_cases hlt : m < L
    · have hlt' : ((m : Int) < L) = True := by simp; omega
      obtain ⟨o2, el2, s2, tk2, pr2, hv⟩ := unhide HX2
      obtain ⟨nw0, bk0, f23, hr0⟩ := unhide HM
      have h3 := ((unhide HH).call o2).still f23
      obtain ⟨g1, g2, g3, g4, g5, g6⟩ := h3.hp.geo.b
      obtain ⟨x, rest, rfl⟩ : ∃ x rest', rest = x :: rest' := by
        cases rest with
        | nil =>
          have := congrArg List.length mk.sp
          simp at this; omega
        | cons x r => exact ⟨x, r, rfl⟩
      have hp : (chP nu true n vs)[m]? = some ⟨(fi nu + 8 * x : Nat), fr, n', (8 * nxq nu rest : Nat)⟩ := by
        have : ((chP nu true n vs).drop m)[0]? = some ⟨(fi nu + 8 * x : Nat), fr, n', (8 * nxq nu rest : Nat)⟩ := by rw [mk.pc]; rfl
        rwa [List.getElem?_drop, Nat.add_zero] at this
      have hin : ∀ v ∈ x :: rest, v ∈ vs := fun v hv' => by rw [← mk.sp] at hv'; exact List.mem_of_mem_drop hv'
      have hxv := (unhide HVL x (hin x (by simp))).2
      have hq6 : nxq nu rest < 65536 := by
        cases rest with
        | nil => simp [nxq]
        | cons y ys =>
          have := (unhide HVL y (hin y (by simp))).2
          have := (nxq_ne (nu := nu) (u := y) (us := ys)).2
          omega
      have prq := (pr2.still f23).kept on.fr (fun k hk => by cases hk; exact unhide HNG)
      obtain ⟨e0, e1, e2, e3⟩ := prq.cells hp
      obtain ⟨W, hW⟩ : ∃ W, wq.alloc (.cells #[.int .i64 (fi nu + 8 * x : Nat), .int .u64 (kdN fr), .int .i64 n', .int .i64 (8 * nxq nu rest : Nat)] 101) = W := ⟨_, rfl⟩
      have fW : Still wq W := hW ▸ (Fr.refl _ wq).alloc _
      have bW : W.heap[wq.heap.size]? = some (.cells #[.int .i64 (fi nu + 8 * x : Nat), .int .u64 (kdN fr), .int .i64 n', .int .i64 (8 * nxq nu rest : Nat)] 101 (0, 0)) := hW ▸ heap_alloc_new wq _
      obtain ⟨q, hq⟩ : ∃ q, wq.heap.size = q := ⟨_, rfl⟩
      rw [hq] at bW
      have nq : ¬ tfoot sb b T' q := fun y => by have := on.st.lt q y; omega
      have hwq := (h3.call on).still fW
      have PW := p_word (fi nu + 8 * x : Nat) fr n' (nxq nu rest) mk.n4 hq6
      have ss := sz_b fr n'
      have PS := p_sizeX (fi nu + 8 * x : Nat) fr n' (8 * nxq nu rest : Nat) (by have := mk.n4; omega)
      have AH := p_ahead (fi nu + 8 * x : Nat) fr n' (8 * nxq nu rest : Nat)
      have sah : ahd fr ≤ szN fr n' ∧ szN fr n' - ahd fr ≤ r ∧ ahd fr ≤ 2 := by rw [hr]; unfold szN ahd; cases fr <;> simp <;> omega
      have ltq : q < W.heap.size := World.block_lt_of_cell? _ _ (cell_of_obj bW 0)
      have PU : ∀ w1, Still W w1 → Calls Tryz.prog 56 #[ptr sb, .int .i64 (fi nu + 8 * x : Nat), .int .u64 (wrN fr n' (nxq nu rest) : Nat)] w1 fun e w' => e = .returned (.tuple #[]) ∧ Pte nu sz W hb sb b T' A w' q (upd (says P' A) (fi nu + 8 * x) (wrN fr n' (nxq nu rest) : Nat)) (P'.length + 1) ∧ (w'.cell? ⟨q, 0, none⟩ = some (.int .i64 (fi nu + 8 * x : Nat)) ∧ w'.cell? ⟨q, 1, none⟩ = some (.int .u64 (kdN fr)) ∧ w'.cell? ⟨q, 2, none⟩ = some (.int .i64 n') ∧ w'.cell? ⟨q, 3, none⟩ = some (.int .i64 (8 * nxq nu rest : Nat))) := fun w1 f1 =>
        ((hwq.still f1).put (by omega) (fi nu + 8 * x) (by omega) _).mono fun e w' y => by
          obtain ⟨y1, y2⟩ := y
          obtain ⟨T5, P5, o5, e5, l5⟩ := y2.after f1
          have b5 := o5.fr.obj bW nq
          exact ⟨y1, ⟨T5, P5, o5, e5, l5, o5.other ltq nq, hwq.call o5⟩, cell_of_obj b5 0, cell_of_obj b5 1, cell_of_obj b5 2, cell_of_obj b5 3⟩
      have d0 : W.cell? ⟨q, 0, none⟩ = some (.int .i64 (fi nu + 8 * x : Nat)) := cell_of_obj bW 0
      have d1 : W.cell? ⟨q, 1, none⟩ = some (.int .u64 (kdN fr)) := cell_of_obj bW 1
      have d2 : W.cell? ⟨q, 2, none⟩ = some (.int .i64 n') := cell_of_obj bW 2
      have d3 : W.cell? ⟨q, 3, none⟩ = some (.int .i64 (8 * nxq nu rest : Nat)) := cell_of_obj bW 3
      have HPU := @hide _ PU; have HW := hide (And.intro hW hq)
      have HR := hide (And.intro on (And.intro el (And.intro mk (And.intro asq (And.intro nw (And.intro bk (And.intro hr (And.intro fW (And.intro nq bW)))))))))
      have HC := hide (And.intro h3 (And.intro hin (And.intro hxv hwq)))
      unfold ptV ptO at *
      have hat4 : fi nu + 8 * x ≤ 40000 := by omega
      clear PU hW hq fW bW on el mk asq nw bk nw0 bk0 f23 h3 hin hwq prq hp o2 el2 s2 tk2 pr2 hv g1 g2 g3 g4 g5 g6 hr0 nq
      obtain ⟨px, hpx⟩ : ∃ y, fi nu + 8 * x = y := ⟨_, rfl⟩
      obtain ⟨kd, hkd⟩ : ∃ y, kdN fr = y := ⟨_, rfl⟩
      obtain ⟨nx, hnx⟩ : ∃ y : Int, ((8 * nxq nu rest : Nat) : Int) = y := ⟨_, rfl⟩
      obtain ⟨wv, hwv⟩ : ∃ y, wrN fr n' (nxq nu rest) = y := ⟨_, rfl⟩
      obtain ⟨rs, hrs⟩ : ∃ y, szN fr n' = y := ⟨_, rfl⟩
      obtain ⟨ah, hah⟩ : ∃ y, ahd fr = y := ⟨_, rfl⟩
      simp only [hrs, hah] at PS AH ss sah
      simp only [hpx, hkd, hnx, hwv] at HPU HW PW PS AH e0 e1 e2 e3 d0 d1 d2 d3 hat4
      have HPP := hide (And.intro hpx (And.intro hkd (And.intro hnx (And.intro hwv (And.intro hrs hah)))))
      clear hpx hkd hnx hwv hrs hah
      obtain ⟨k, hk⟩ : ∃ k, rs - ah = k := ⟨_, rfl⟩
      have wk : IntKind.i64.wrap ((rs : Int) - ah) = (k : Int) := by rw [(wrap_small _ (by omega) (by omega)).1]; omega
      have hkr : k ≤ r ∧ k ≤ 64 := by omega
      have sl1 : ∀ w, (Instr.slice 98 (.slice ad r r) none (some (.int .i64 k)) none).run Tryz.prog w = .ok (.slice ad k r) w := fun w => slice_toW ad r r k w (by omega)
      have sl2 : ∀ w, (Instr.slice 98 (.slice ad r r) (some (.int .i64 k)) none none).run Tryz.prog w = .ok (.slice (cutW ad r k) (r - k) (r - k)) w := fun w => slice_fromW ad r r k w (by omega)
      have HK := hide (And.intro hk (And.intro ss sah))
      clear ss sah sl
      go_upto_region 8 with fail
      rw [(unhide HW).1, (unhide HW).2]
      clear e0 e1 e2 e3
      go_region_held (fun w' => w'.cell? ⟨q, 0, none⟩ = some (.int .i64 px) ∧ w'.cell? ⟨q, 1, none⟩ = some (.int .u64 kd) ∧ w'.cell? ⟨q, 2, none⟩ = some (.int .i64 n') ∧ w'.cell? ⟨q, 3, none⟩ = some (.int .i64 nx)) (first | assumption | (with_reducible exact ⟨(kept0 W).cell' d0 (fun x => x), (kept0 W).cell' d1 (fun x => x), (kept0 W).cell' d2 (fun x => x), (kept0 W).cell' d3 (fun x => x)⟩) | go_keep) (first | (go_at_call 57; refine (PW _).mono ?_; rintro e w' ⟨rfl, rfl⟩) | (go_at_call 56; refine (unhide HPU _ (keptA _ _)).mono ?_; rintro e w5 ⟨rfl, hto, hS5⟩; replace hto := hide hto))
      obtain ⟨d0, d1, d2, d3⟩ := hS5
      clear PW HPU
      go_upto_region 9 with fail
      go_region_held (fun w' => w'.cell? ⟨q, 0, none⟩ = some (.int .i64 px) ∧ w'.cell? ⟨q, 1, none⟩ = some (.int .u64 kd) ∧ w'.cell? ⟨q, 2, none⟩ = some (.int .i64 n') ∧ w'.cell? ⟨q, 3, none⟩ = some (.int .i64 nx)) (first | assumption | (with_reducible exact ⟨(kept0 w5).cell' d0 (fun x => x), (kept0 w5).cell' d1 (fun x => x), (kept0 w5).cell' d2 (fun x => x), (kept0 w5).cell' d3 (fun x => x)⟩) | (with_reducible exact ⟨(keptA w5 (.cells #[.int .i64 px, .int .u64 kd, .int .i64 n', .int .i64 nx] 101)).cell' d0 (fun x => x), (keptA w5 (.cells #[.int .i64 px, .int .u64 kd, .int .i64 n', .int .i64 nx] 101)).cell' d1 (fun x => x), (keptA w5 (.cells #[.int .i64 px, .int .u64 kd, .int .i64 n', .int .i64 nx] 101)).cell' d2 (fun x => x), (keptA w5 (.cells #[.int .i64 px, .int .u64 kd, .int .i64 n', .int .i64 nx] 101)).cell' d3 (fun x => x)⟩) | (with_reducible exact ⟨(kept2 w5 (.cells #[.int .i64 px, .int .u64 kd, .int .i64 n', .int .i64 nx] 101) (.cells #[.int .i64 px, .int .u64 kd, .int .i64 n', .int .i64 nx] 101)).cell' d0 (fun x => x), (kept2 w5 (.cells #[.int .i64 px, .int .u64 kd, .int .i64 n', .int .i64 nx] 101) (.cells #[.int .i64 px, .int .u64 kd, .int .i64 n', .int .i64 nx] 101)).cell' d1 (fun x => x), (kept2 w5 (.cells #[.int .i64 px, .int .u64 kd, .int .i64 n', .int .i64 nx] 101) (.cells #[.int .i64 px, .int .u64 kd, .int .i64 n', .int .i64 nx] 101)).cell' d2 (fun x => x), (kept2 w5 (.cells #[.int .i64 px, .int .u64 kd, .int .i64 n', .int .i64 nx] 101) (.cells #[.int .i64 px, .int .u64 kd, .int .i64 n', .int .i64 nx] 101)).cell' d3 (fun x => x)⟩) | (with_reducible exact ⟨(kept3 w5 (.cells #[.int .i64 px, .int .u64 kd, .int .i64 n', .int .i64 nx] 101) (.cells #[.int .i64 px, .int .u64 kd, .int .i64 n', .int .i64 nx] 101) (.cells #[.int .i64 px, .int .u64 kd, .int .i64 n', .int .i64 nx] 101)).cell' d0 (fun x => x), (kept3 w5 (.cells #[.int .i64 px, .int .u64 kd, .int .i64 n', .int .i64 nx] 101) (.cells #[.int .i64 px, .int .u64 kd, .int .i64 n', .int .i64 nx] 101) (.cells #[.int .i64 px, .int .u64 kd, .int .i64 n', .int .i64 nx] 101)).cell' d1 (fun x => x), (kept3 w5 (.cells #[.int .i64 px, .int .u64 kd, .int .i64 n', .int .i64 nx] 101) (.cells #[.int .i64 px, .int .u64 kd, .int .i64 n', .int .i64 nx] 101) (.cells #[.int .i64 px, .int .u64 kd, .int .i64 n', .int .i64 nx] 101)).cell' d2 (fun x => x), (kept3 w5 (.cells #[.int .i64 px, .int .u64 kd, .int .i64 n', .int .i64 nx] 101) (.cells #[.int .i64 px, .int .u64 kd, .int .i64 n', .int .i64 nx] 101) (.cells #[.int .i64 px, .int .u64 kd, .int .i64 n', .int .i64 nx] 101)).cell' d3 (fun x => x)⟩) | go_keep) (first | (go_at_call 58; refine (PS _).mono ?_; rintro e w' ⟨rfl, rfl⟩) | (go_at_call 59; refine (AH _).mono ?_; rintro e w' ⟨rfl, rfl⟩))
      obtain ⟨W9, hW9⟩ : ∃ W9, (((w5.alloc (.cells #[.int .i64 px, .int .u64 kd, .int .i64 n', .int .i64 nx] 101)).alloc (.cells #[.int .i64 px, .int .u64 kd, .int .i64 n', .int .i64 nx] 101)).alloc (.cells #[.int .i64 px, .int .u64 kd, .int .i64 n', .int .i64 nx] 101)).drew.drew = W9 := ⟨_, rfl⟩
      have f9 : Still w5 W9 := hW9 ▸ kept3 _ _ _ _
      rw [hW9]
      clear hW9 PS
      replace d0 := f9.cell' d0 (fun x => x)
      replace d1 := f9.cell' d1 (fun x => x)
      replace d2 := f9.cell' d2 (fun x => x)
      replace d3 := f9.cell' d3 (fun x => x)
      obtain ⟨T5, P5, o5, e5, l5, nq5, hp5⟩ := unhide hto
      obtain ⟨on, el, mk, asq, nw, bk, hr, fW, nq, bW⟩ := unhide HR
      obtain ⟨lt23, nt2⟩ := unhide HLT
      have nad' : ¬ tfoot sb b T' w2.heap.size := on.other lt23 nt2
      have ltW : w2.heap.size < W.heap.size := Nat.lt_of_lt_of_le lt23 (Nat.le_trans on.fr.size fW.size)
      have nad5 : ∀ y, ad = some y → ¬ tfoot sb b T5 y.block := fun y hy => by rw [bk y hy]; exact o5.other ltW nad'
      have nw9 : Nats .u64 W9 ad r (fun t => wordN bt n (o + t)) := ((nw.fr fW (fun _ _ x => x)).fr o5.fr (fun y hy => by rw [bk y hy]; exact nad')).fr f9 (fun _ _ x => x)
      have oW9 : Onx w3 sb b T2 W9 T5 sz A P5 false := ((on.quiet fW).trans o5).quiet f9
      have hz9 := hp5.still f9
      have HQ := hide (And.intro oW9 (And.intro e5 (And.intro l5 (And.intro nq5 (And.intro hz9 (And.intro nad5 nw9))))))
      have hpz := (unhide HC).2.2.1
      obtain ⟨hpx, hkd, hnx, hwv, hrs, hah⟩ := unhide HPP
      obtain ⟨hk0, ss0, sah0⟩ := unhide HK
      obtain ⟨g1, g2, g3, g4, g5, g6⟩ := hz9.hp.geo.b
      have hk63 : k ≤ 63 ∧ 1 ≤ ah ∧ ah ≤ 2 ∧ ah + k = rs := by
        have : 1 ≤ ahd fr := by unfold ahd; split <;> omega
        omega
      have hpsz : px + rs ≤ sz := by
        have hu : ask nu (says P2 A) x ≠ 0 := (unhide HVL x ((unhide HC).2.1 x (by simp))).1
        have s2 := (unhide HX2).2.2.1
        obtain ⟨i1, i2, i3, i4⟩ := s2.inv.asks x hu
        have hl := lv_holds (ask nu (says P2 A) x) i2
        rw [asq.1] at hl i4
        omega
      have HPN := hide (And.intro hpsz hk63)
      have hah2 : ah ≤ 2 := by omega
      clear o5 e5 l5 nq5 hp5 on el mk asq nw bk fW nq bW lt23 nt2 nad' ltW nad5 nw9 oW9 hz9 f9 hpx hkd hnx hwv hrs hah hk0 ss0 sah0 g1 g2 g3 g4 g5 g6 hpz hk63 hto HW hpsz
      go_wp2_with fail
      go_loopw [47] (fun iv wr => ∃ (j : Nat) (T6 : Tay) (P6 : List (Int × Int)), j ≤ k ∧ iv = .int .i64 j ∧ Onx W9 sb b T5 wr T6 sz A P6 false ∧ P6.length ≤ P'.length + 1 + j ∧ says P6 A = gwN (upd (says P' A) px wv) (px + ah) (wordN bt n) o j) (fun iv wr => k - (intOf iv).toNat)
      case atStart =>
        obtain ⟨oW9, e5, l5, nq5, hz9, nad5, nw9⟩ := unhide HQ
        exact ⟨0, T5, P5, by omega, rfl, Onx.start hz9.st, by omega, by rw [gw_zero]; exact e5⟩
      case round =>
        obtain ⟨j, T6, P6, hj, rfl, o6, l6, e6⟩ := hrel
        generalize wr = wz at *
        clear wr
        obtain ⟨oW9, e5, l5, nq5, hz9, nad5, nw9⟩ := unhide HQ
        have hz := hz9.call o6
        have nwz := nw9.fr o6.fr nad5
        by_cases hlt2 : j < k
        · have hlt2' : ((j : Int) < k) = True := by simp; omega
          obtain ⟨xb, xo, ead, cz⟩ := nwz j (by omega)
          have el := (unhide HR).2.1
          have hml : P'.length + 1 + j < 6144 := by have := (unhide HX2).2.1; omega
          have ltq9 := World.block_lt_of_cell? _ _ d0
          have nq6 := o6.other ltq9 nq5
          replace d0 := o6.fr.cell' d0 nq5
          replace d1 := o6.fr.cell' d1 nq5
          replace d2 := o6.fr.cell' d2 nq5
          replace d3 := o6.fr.cell' d3 nq5
          have PU2 : ∀ w1, Still wz w1 → Calls Tryz.prog 56 #[ptr sb, .int .i64 ((px : Int) + ah + j), .int .u64 ((wordN bt n (o + j) : Nat) : Int)] w1 fun e w' => e = .returned (.tuple #[]) ∧ Pte nu sz wz hb sb b T6 A w' q (gwN (upd (says P' A) px wv) (px + ah) (wordN bt n) o (j + 1)) (P'.length + 1 + (j + 1)) ∧ (w'.cell? ⟨q, 0, none⟩ = some (.int .i64 px) ∧ w'.cell? ⟨q, 1, none⟩ = some (.int .u64 kd) ∧ w'.cell? ⟨q, 2, none⟩ = some (.int .i64 n') ∧ w'.cell? ⟨q, 3, none⟩ = some (.int .i64 nx)) := fun w1 f1 => by
            have := (hz.still f1).put (by omega) (px + ah + j) (by have := unhide HPN; omega) ((wordN bt n (o + j) : Nat) : Int)
            rw [show ((px + ah + j : Nat) : Int) = (px : Int) + ah + j by omega, e6, gw_step] at this
            refine this.mono fun e w' y => ?_
            obtain ⟨y1, y2⟩ := y
            obtain ⟨T7, P7, o7, e7, l7⟩ := y2.after f1
            exact ⟨y1, ⟨T7, P7, o7, e7, by omega, o7.other (Nat.lt_of_lt_of_le ltq9 o6.fr.size) nq6, hz.call o7⟩, o7.fr.cell' d0 nq6, o7.fr.cell' d1 nq6, o7.fr.cell' d2 nq6, o7.fr.cell' d3 nq6⟩
          have w1a : IntKind.i64.wrap ((px : Int) + ah) = (px : Int) + ah := (wrap_small _ (by omega) (by omega)).1
          have w1b : IntKind.i64.wrap ((px : Int) + ah + j) = (px : Int) + ah + j := (wrap_small _ (by omega) (by omega)).1
          obtain ⟨vj, hvj⟩ : ∃ y : Int, ((wordN bt n (o + j) : Nat) : Int) = y := ⟨_, rfl⟩
          simp only [hvj] at PU2 cz
          have HPU2 := @hide _ PU2
          have HO6 := hide o6
          clear PU2 hvj o6 l6 e6 oW9 e5 l5 nq5 hz9 nad5 nw9 hz nwz nq6 hml el
          subst ead
          go_upto_region 13 with fail
          go_region_held (fun w' => w'.cell? ⟨q, 0, none⟩ = some (.int .i64 px) ∧ w'.cell? ⟨q, 1, none⟩ = some (.int .u64 kd) ∧ w'.cell? ⟨q, 2, none⟩ = some (.int .i64 n') ∧ w'.cell? ⟨q, 3, none⟩ = some (.int .i64 nx)) (first | assumption | (with_reducible exact ⟨(kept0 wz).cell' d0 (fun x => x), (kept0 wz).cell' d1 (fun x => x), (kept0 wz).cell' d2 (fun x => x), (kept0 wz).cell' d3 (fun x => x)⟩) | (with_reducible exact ⟨(keptA wz (.cells #[.int .i64 px, .int .u64 kd, .int .i64 n', .int .i64 nx] 101)).cell' d0 (fun x => x), (keptA wz (.cells #[.int .i64 px, .int .u64 kd, .int .i64 n', .int .i64 nx] 101)).cell' d1 (fun x => x), (keptA wz (.cells #[.int .i64 px, .int .u64 kd, .int .i64 n', .int .i64 nx] 101)).cell' d2 (fun x => x), (keptA wz (.cells #[.int .i64 px, .int .u64 kd, .int .i64 n', .int .i64 nx] 101)).cell' d3 (fun x => x)⟩) | go_keep) (first | (go_at_call 59; refine (AH _).mono ?_; rintro e w' ⟨rfl, rfl⟩) | (go_at_call 56; refine (unhide HPU2 _ (keptA _ _)).mono ?_; rintro e w7 ⟨rfl, hto7, hS7⟩; replace hto7 := hide hto7))
          clear hS7 d0 d1 d2 d3 cz
          go_wp2
          obtain ⟨T7, P7, o7, e7, l7, nq7, hp7⟩ := unhide hto7
          exact ⟨⟨j + 1, T7, P7, by omega, by go_num, (unhide HO6).trans o7, l7, e7⟩, by simp [intOf]; omega⟩
        · have ej : k = j := by omega
          subst ej
          have hlt2' : ((k : Int) < k) = False := by simp
          have HZ := hide (And.intro o6 (And.intro l6 (And.intro e6 nwz)))
          clear o6 l6 e6 nwz hz oW9 e5 l5 nq5 hz9 nad5 nw9 d0 d1 d2 d3
          go_wp2
          obtain ⟨o6, l6, e6, nwz⟩ := unhide HZ
          obtain ⟨oW9, e5, l5, nq5, hz9, nad5, nw9⟩ := unhide HQ
          obtain ⟨on, el, mk, asq, nw, bk, hr, fW, nq, bW⟩ := unhide HR
          obtain ⟨hpx, hkd, hnx, hwv, hrs, hah⟩ := unhide HPP
          obtain ⟨hk0, ss0, sah0⟩ := unhide HK
          obtain ⟨hpsz, hk63, ha1, ha2, hak⟩ := unhide HPN
          obtain ⟨tf, as0⟩ := unhide HTF
          have s2 := (unhide HX2).2.2.1
          have hxm : x ∈ vs := (unhide HC).2.1 x (by simp)
          have hb' : r - k = (bhN fr n' + 7) / 8 := by
            rw [← hk0, ← hrs, ← hah, hr]
            unfold szN bhN ahd
            cases fr <;> simp <;> omega
          have ap : ∀ v ∈ vs, v ≠ x → 8 * v + ask nu (says P2 A) v ≤ 8 * x ∨ 8 * x + ask nu (says P2 A) x ≤ 8 * v := fun v hv hne => by
            have a1 := (unhide HVL v hv).1
            have a2 := (unhide HVL x hxm).1
            rcases Nat.lt_or_gt_of_ne hne with h | h
            · have h1 := s2.inv.apartB a1 a2 h
              have h2 := lv_holds (ask nu (says P2 A) v) (s2.inv.asks v a1).2.1
              left; omega
            · have h1 := s2.inv.apartB a2 a1 h
              have h2 := lv_holds (ask nu (says P2 A) x) (s2.inv.asks x a2).2.1
              right; omega
          have h1 : says P6 A (fi nu + 8 * x) = ((wrN fr n' (nxq nu rest) : Nat) : Int) := by
            rw [e6, hpx, hwv]
            unfold gwN
            rw [if_neg (by omega), upd_same]
          have h2 : ∀ i, i < szN fr n' - ahd fr → says P6 A (fi nu + 8 * x + ahd fr + i) = ((wordN bt n (o + i) : Nat) : Int) := fun i hi => by
            rw [hrs, hah] at hi
            rw [e6, hpx, hah]
            unfold gwN
            rw [if_pos (by omega), show px + ah + i - (px + ah) = i by omega]
          have h3 : ∀ i, (i < fi nu + 8 * x ∨ fi nu + 8 * x + szN fr n' ≤ i) → says P6 A i = says P' A i := fun i hi => by
            rw [hpx, hrs] at hi
            rw [e6]
            unfold gwN
            rw [if_neg (by omega), upd_other _ _ (by omega)]
          have st := MkI.step (g2 := says P6 A) mk tf.nd ap asq.1 h1 h2 h3
          rw [hrs, hah, hk0] at st
          have nc := cut_natsW k (Nat.le_refl r) nwz
          have ef : (fun t => wordN bt n (o + (k + t))) = fun t => wordN bt n (o + k + t) := by funext t; rw [Nat.add_assoc]
          rw [ef] at nc
          refine ⟨⟨m + 1, cutW ad r k, T6, P6, false, bhN fr n', o + k, r - k, rest, by omega, by go_num, by unfold cutW; rw [Nat.mul_one, hr], hb', oW9.trans o6, by omega, st, asq.2, nc, fun y hy => ?_⟩, by simp [intOf]; omega⟩
          obtain ⟨y', hy', ey⟩ := cutW_block hy
          rw [ey, bk y' hy']
    · have em : m = L := by omega
      subst em
      have hlt' : ((m : Int) < m) = False := by simp
      obtain ⟨o2, el2, s2, tk2, pr2, hv⟩ := unhide HX2
      obtain ⟨nw0, bk0, f23, hr0⟩ := unhide HM
      obtain ⟨en, hvl⟩ := unhide HE
      have h3 := (((unhide HH).call o2).still f23).call on
      obtain ⟨g1, g2, g3, g4, g5, g6⟩ := h3.hp.geo.b
      have hvm : vs.length = m := by rw [hvl]; exact unhide HL
      have hrest : rest = [] := by rw [← mk.sp]; exact List.drop_of_length_le (by omega)
      subst hrest
      have prq := (pr2.still f23).kept on.fr (fun k hk => by cases hk; exact unhide HNG)
      have ngq := on.other (k := g) (Nat.lt_of_lt_of_le (World.ownsRow.lt pr2 g rfl).2 f23.size) (unhide HNG)
      cases vs with
      | nil => simp at hvm; omega
      | cons u us =>
        have hg0 : (chP nu true n (u :: us))[0]? = some ⟨(fi nu + 8 * u : Nat), true, n, (8 * nxq nu us : Nat)⟩ := rfl
        obtain ⟨c0, c1, c2, c3⟩ := prq.cells hg0
        have c0' : wq.cell? ⟨g, 0, none⟩ = some (.int .i64 (fi nu + 8 * u : Nat)) := by simpa using c0
        have hua := unhide HVL u (by simp)
        obtain ⟨tf, as0⟩ := unhide HTF
        obtain ⟨i1, i2, i3, i4⟩ := s2.inv.asks u hua.1
        have hl := lv_holds (ask nu (says P2 A) u) i2
        have hs2 : 2 ≤ szN true n := by unfold szN ahd; simp; omega
        rw [as0.1] at hl i4
        have hhi : fi nu + 8 * u + 2 ≤ sz := by omega
        have PU : Calls Tryz.prog 56 #[ptr sb, .int .i64 (((fi nu + 8 * u : Nat) : Int) + 1), .int .u64 1] wq fun e w' => e = .returned (.tuple #[]) ∧ To sz wq sb b T' A w' (upd (says P' A) (fi nu + 8 * u + 1) 1) (P'.length + 1) ∧ w'.cell? ⟨g, 0, none⟩ = some (.int .i64 (fi nu + 8 * u : Nat)) := by
          have := h3.put (by omega) (fi nu + 8 * u + 1) (by omega) 1
          rw [show ((fi nu + 8 * u + 1 : Nat) : Int) = ((fi nu + 8 * u : Nat) : Int) + 1 by omega] at this
          refine this.mono fun e w' y => ?_
          obtain ⟨y1, y2⟩ := y
          obtain ⟨T7, P7, o7, e7, l7⟩ := id y2
          exact ⟨y1, y2, o7.fr.cell' c0' ngq⟩
        have hm0 : ((0 : Int) < m) = True := by simp; omega
        obtain ⟨p0, hp0⟩ : ∃ p0 : Nat, fi nu + 8 * u = p0 := ⟨_, rfl⟩
        have hp4 : p0 ≤ 40000 := by omega
        have HPU := hide PU
        have HF := hide (And.intro on (And.intro el (And.intro mk (And.intro asq h3)))); have HP0 := hide hp0; have HAA := hide (And.intro en (And.intro hvm (And.intro as0 hs2)))
        simp only [hp0] at HPU c0'
        clear PU on el mk asq h3 hp0 o2 el2 s2 tk2 pr2 hv nw0 bk0 f23 hr0 en hvl hvm prq ngq c0 c1 c2 c3 hg0 tf as0 i1 i2 i3 i4 hl hhi g1 g2 g3 g4 g5 g6 hua hs2 nw bk hr
        go_wp2_with fail
        refine (unhide HPU).mono ?_
        clear HPU c0'
        rintro e w7 ⟨rfl, to7, c7⟩
        have HT7 := hide to7
        clear to7
        go_wp2
        go_ret
        obtain ⟨T7, P7, o7, e7, l7⟩ := unhide HT7
        obtain ⟨on, el, mk, asq, h3⟩ := unhide HF
        obtain ⟨en, hvm, as0, hs2⟩ := unhide HAA
        obtain ⟨o2, el2, s2, tk2, pr2, hv⟩ := unhide HX2
        obtain ⟨nw0, bk0, f23, hr0⟩ := unhide HM
        obtain ⟨tf, as0'⟩ := unhide HTF
        have hp0 := unhide HP0
        rw [← hp0] at e7
        have hgi : ∀ i, (∀ v ∈ u :: us, i < fi nu + 8 * v ∨ fi nu + 8 * v + ask nu (says P2 A) v ≤ i) → upd (says P' A) (fi nu + 8 * u + 1) 1 i = says P2 A i := fun i hi => by
          have := hi u (by simp)
          rw [as0.1] at this
          rw [upd_other _ _ (by omega)]
          exact mk.ks i fun v hv' => hi v (List.mem_of_mem_take hv')
        have hown : ∀ i, i < fi nu → upd (says P' A) (fi nu + 8 * u + 1) 1 i = says P2 A i := fun i hi => hgi i fun v _ => .inl (by omega)
        have sg := s2.own hown
        have eg := ask_own hown
        have eP : ask nu (says P' A) = ask nu (says P2 A) := ask_own fun i hi => mk.ks i fun v _ => .inl (by omega)
        have wt : Wrtn nu (says P' A) (wordN bt n) true n 0 (u :: us) := mk.ct (says P' A) (fun _ _ _ _ => rfl) trivial
        have ap : ∀ x ∈ us, fi nu + 8 * u + 1 < fi nu + 8 * x ∨ fi nu + 8 * x + ask nu (says P' A) x ≤ fi nu + 8 * u + 1 := fun x hx => by
          rw [eP]
          have hxm : x ∈ u :: us := by simp [hx]
          have a1 := (unhide HVL x hxm).1
          have a2 := (unhide HVL u (by simp)).1
          have hne : x ≠ u := fun e => by have := (List.nodup_cons.1 tf.nd).1; exact this (e ▸ hx)
          rcases Nat.lt_or_gt_of_ne hne with h | h
          · have h1 := s2.inv.apartB a1 a2 h
            have h2 := lv_holds (ask nu (says P2 A) x) (s2.inv.asks x a1).2.1
            right; omega
          · left; omega
        have wf := wt.first (v := 1) (as0.own eP) ap
        have rc := rec_of h3.hp.geo sg n4 en (as0.own eg) wf (upd_same _ _ _) (by simp at hvm; omega) tf.nd
        refine ⟨u, us, _, by rw [hp0]; rfl, ⟨T7, P7, ((o2.quiet f23).trans on).trans o7, e7, by omega⟩, rc, sg, _, _, tf, eg, fun y hy => ?_, hgi⟩
        obtain ⟨p, _, rfl⟩ := List.mem_map.1 hy
        exact (by omega : 1 ≤ 32)
end
end

section
def IterA (m : Nat) (P : Program) (gf : Nat) (lb : Array Value) (enc : Nat → Array Value) (N l : Nat) (J : Nat → World → Prop) : Prop :=
  ∀ (J' : Nat → World → Prop) (Jx : World → Prop) (Jp : List PanicEntry → World → Prop), (∀ k W, J' k W → J k W) → (∀ k W n, J' k W → J' k (W.drewN n)) →
    (∀ k W, k < N → J' k W → YieldAt Fence.wide (m - 1) P l (enc k) W fun e W' => (e = .returned (.bool true) ∧ J' (k + 1) W') ∨ (e = .returned (.bool false) ∧ Jx W') ∨ ∃ ch, e = .panicked ch ∧ Jp ch W') →
    ∀ W, J' 0 W → CallsIn Fence.wide m P gf (#[.func (.yield l) #[] #[]] ++ lb) W fun e W' => (∃ v, e = .returned v ∧ J' N W') ∨ (∃ v, e = .returned v ∧ Jx W') ∨ ∃ ch, e = .panicked ch ∧ Jp ch W'

theorem range_okA {P : Program} {f : FuncId} {g : Operand} {ps : Array Tmp} {assign body : Code} {Q : Exit → Act → World → Prop} {a : Act} {w : World}
    {gf : Nat} {lb : Array Value} (hg : a.eval g = .func (.func gf) #[] lb) (eg : ∀ args w, (callFunc gf args).run P w = .ok (.enter gf args) w) (hfn : ∃ fn, P.funcs[f]? = some fn)
    {N : Nat} {enc : Nat → Array Value} (hps : ∀ k, (enc k).size = ps.size) (J : Nat → World → Prop) (JA : Nat → Act → World → Prop) (Jr : World → Prop) (Jp : List PanicEntry → World → Prop)
    (hJ : ∀ k W W', J k W → Fr (pair w.heap.size) W W' → J k W') (hJA : ∀ k a W W', JA k a W → Fr (pair w.heap.size) W W' → JA k a W') (hJr : ∀ W W', Jr W → Fr (pair w.heap.size) W W' → Jr W')
    (hseq : IterA 0 P gf lb enc N (w.heap.size + 1) J) (h0 : ∀ o1 o2, J 0 ((w.alloc o1).alloc o2))
    (hassign : ∀ (l k : Nat) (W : World) (K : Act → World → Prop), J k W → k < N → (∀ a' W', JA k a' W' → W'.heap[w.heap.size]? = W.heap[w.heap.size]? → W'.heap[w.heap.size + 1]? = W.heap[w.heap.size + 1]? → K a' W') →
      assign.wpIn (Fence.wide.inRound l) 0 P (Exit.then K (fun _ _ _ => False)) { tmps := (ps.zip (enc k)).foldl (fun t (p, v) => t.setIfInBounds p v) a.tmps, defers := [] } W)
    (hbody : ∀ (l k : Nat) (a' : Act) (W : World), JA k a' W → k < N → body.wpIn (Fence.wide.inRound l) 0 P (bodyEnds w.heap.size (J (k + 1)) Jr Jp W) a' W)
    (hdone : ∀ (W : World), J N W → W.heap[w.heap.size]? = some (.deferred (some [])) → Q .normal { a with defers := { target := .collected w.heap.size, args := #[] } :: a.defers } W)
    (hret : ∀ (W : World), Jr W → W.heap[w.heap.size]? = some (.deferred (some [])) → Code.ret.wpIn Fence.wide 0 P Q { a with defers := { target := .collected w.heap.size, args := #[] } :: a.defers } W)
    (hpan : ∀ (ch : List PanicEntry) (W : World), Jp ch W → W.heap[w.heap.size]? = some (.deferred (some [])) → Q (.panic ch) { a with defers := { target := .collected w.heap.size, args := #[] } :: a.defers } W) :
    wpOf P f (Code.rangeFunc g ps assign body) Q a w := by
  obtain ⟨rec, hrec⟩ : ∃ rec : LoopState → Option Code → Loop, rec = fun st pe => { state := st, pending := pe, fn := f, tmps := a.tmps, params := ps, assign, body, defers := w.heap.size } := ⟨_, rfl⟩
  obtain ⟨W1, hW1⟩ : ∃ W1, (w.alloc (.deferred (some []))).alloc (.loop (rec .ready none)) = W1 := ⟨_, rfl⟩
  have hL1 : W1.heap[w.heap.size + 1]? = some (.loop (rec .ready none)) := by
    rw [← hW1]; have := World.alloc_heap_new (w.alloc (.deferred (some []))) (.loop (rec .ready none)); rwa [World.size_alloc] at this
  have hK1 : W1.heap[w.heap.size]? = some (.deferred (some [])) := by
    rw [← hW1]; exact (Below.heap_alloc _ _ _ (by simp)).trans (World.alloc_heap_new w _)
  have put : ∀ (W : World) (o : Obj), Fr (pair w.heap.size) W (W.putObj (w.heap.size + 1) o) := fun W o => (Fr.refl _ W).putObj (.inl (.inr rfl)) o
  refine wpOf_range (l := w.heap.size + 1) (mark := [{ target := .collected w.heap.size, args := #[] }]) (w₁ := W1) (w₁' := W1) (w₂ := W1) (d := { target := .fn (.func gf) lb, args := #[.func (.yield (w.heap.size + 1)) #[] #[]] })
    (gf := gf) (args := #[.func (.yield (w.heap.size + 1)) #[] #[]] ++ lb) ?_ ?_ ?_ ?_
  · rw [← hW1, hrec]; exact run_enterLoop_outer _ _ _ _ _
  · simp only [resolve, hg]
    simp [go_sem]
  · simp [invoke, go_sem, eg]
  · refine (hseq
      (fun k W => J k W ∧ W.heap[w.heap.size + 1]? = some (.loop (rec .ready none)) ∧ W.heap[w.heap.size]? = some (.deferred (some [])))
      (fun W => Jr W ∧ W.heap[w.heap.size + 1]? = some (.loop (rec .done (some .ret))) ∧ W.heap[w.heap.size]? = some (.deferred (some [])))
      (fun ch W => Jp ch W ∧ W.heap[w.heap.size]? = some (.deferred (some [])))
      (fun k W h => h.1) (fun k W n h => ⟨hJ k W _ h.1 ((Fr.refl _ W).drewN n), h.2⟩) ?_ W1 ⟨by rw [← hW1]; exact h0 _ _, hL1, hK1⟩).mono ?_
    · rintro k W hk ⟨hj, hl, hd⟩
      have hlt : w.heap.size + 1 < W.heap.size := (Array.getElem?_eq_some_iff.1 hl).1
      have hy := run_yield (P := P) (args := (enc k)) hl (by rw [hrec]; simp [hps])
      rw [hrec] at hy
      refine ⟨f, _, assign, body, hy, round_of_wp trivial hfn (hassign _ k W _ hj hk ?_)⟩
      intro a' W2 hA e1 e2
      rw [hl] at e2; rw [hd] at e1
      refine ⟨_, run_beginRound e2 (by rw [hrec]), ?_⟩
      have hlt2 : w.heap.size + 1 < W2.heap.size := (Array.getElem?_eq_some_iff.1 e2).1
      have hl3 : (W2.putObj (w.heap.size + 1) (.loop { rec .ready none with state := .busy })).heap[w.heap.size + 1]? = some (.loop { rec .ready none with state := .busy }) := World.putObj_heap_same hlt2
      have hd3 : (W2.putObj (w.heap.size + 1) (.loop { rec .ready none with state := .busy })).heap[w.heap.size]? = some (.deferred (some [])) := (World.putObj_heap_other (by omega)).trans e1
      refine wpIn_mono (hbody _ k a' _ (hJA k a' W2 _ hA (put W2 _)) hk) ?_
      have fin : ∀ (jump : Option Code) (W3 : World), W3.heap[w.heap.size + 1]? = some (.loop { rec .ready none with state := .busy }) →
          (Instr.endRound (w.heap.size + 1) jump).run P W3 = .ok (.bool jump.isNone) (W3.putObj (w.heap.size + 1) (.loop (rec (if jump.isNone then .ready else .done) jump))) ∧
          (W3.putObj (w.heap.size + 1) (.loop (rec (if jump.isNone then .ready else .done) jump))).heap[w.heap.size + 1]? = some (.loop (rec (if jump.isNone then .ready else .done) jump)) := fun jump W3 h3 => by
        have := run_endRound (P := P) jump h3
        rw [hrec] at this ⊢
        exact ⟨this, World.putObj_heap_same (Array.getElem?_eq_some_iff.1 h3).1⟩
      rintro e a3 W3 hp
      cases e with
      | normal =>
        obtain ⟨⟨k1, k2⟩, hj3⟩ := hp
        obtain ⟨hr, hl4⟩ := fin none W3 (k2.trans hl3)
        exact ⟨_, _, hr, .inl ⟨rfl, hJ _ _ _ hj3 (put W3 _), hl4, (World.putObj_heap_other (by omega)).trans (k1.trans hd3)⟩⟩
      | ret =>
        obtain ⟨⟨k1, k2⟩, hj3⟩ := hp
        obtain ⟨hr, hl4⟩ := fin (some .ret) W3 (k2.trans hl3)
        exact ⟨_, _, hr, .inr (.inl ⟨rfl, hJr _ _ hj3 (put W3 _), hl4, (World.putObj_heap_other (by omega)).trans (k1.trans hd3)⟩)⟩
      | panic ch =>
        obtain ⟨d0, k1, hj3⟩ := hp
        exact ⟨d0, .inr (.inr ⟨ch, rfl, hj3, k1.trans hd3⟩)⟩
      | exit id => exact hp.elim
      | goto t => exact hp.elim
      | outgrown => exact hp.elim
    · rintro e W2 (⟨v, rfl, hj, hl, hd⟩ | ⟨v, rfl, hj, hl, hd⟩ | ⟨ch, rfl, hj, hd⟩)
      · exact ⟨none, _, by have := run_endLoop (P := P) hl (by rw [hrec]; simp); rw [hrec] at this; exact this, hdone _ (hJ _ _ _ hj (put W2 _)) ((World.putObj_heap_other (by omega)).trans hd)⟩
      · exact ⟨some .ret, _, by have := run_endLoop (P := P) hl (by rw [hrec]; simp); rw [hrec] at this; exact this, hret _ (hJr _ _ hj (put W2 _)) ((World.putObj_heap_other (by omega)).trans hd)⟩
      · exact hpan ch W2 hj hd


section
variable {nu : Nat}

def backE (l : List Prt) (k : Nat) : Array Value := #[.int .i64 ((l.length : Int) - 1 - k), match l[l.length - 1 - k]? with | some p => ptV p.at_ p.fr p.n p.nx | none => undef]
set_option maxRecDepth 100000 in
set_option maxHeartbeats 1000000 in
theorem back_ok (bl l g cap m : Nat) (ps : List Prt) (J : Nat → World → Prop) (hm : ps.length = m) (hn : m ≤ 16) (hJ : ∀ k W, J k W → W.cell? ⟨bl, 0, none⟩ = some (.slice (some ⟨g, 0, none⟩) m cap) ∧ ∀ i p, ps[i]? = some p → W.cell? ⟨g, i * 4, none⟩ = some (.int .i64 p.at_) ∧ W.cell? ⟨g, i * 4 + 1, none⟩ = some (.int .u64 (kdN p.fr)) ∧ W.cell? ⟨g, i * 4 + 2, none⟩ = some (.int .i64 p.n) ∧ W.cell? ⟨g, i * 4 + 3, none⟩ = some (.int .i64 p.nx)) :
    IterA 0 Tryz.prog 166 #[.pointer (some ⟨bl, 0, none⟩)] (backE ps) m l J := by
  intro J' Jx Jp hJJ hdr hY W h0
  have hwd : Fence.wide.depth = none := rfl
  have hwf : ∀ f, Fence.wide.fn f := fun _ => trivial
  have hr0 := hJ 0 W (hJJ 0 W h0)
  have cl := hr0.1
  have HJ := @hide _ hJ; have HJJ := @hide _ hJJ; have HD := @hide _ hdr; have HY := @hide _ hY; have H0 := hide h0
  clear hJ hJJ hdr hY h0 hr0
  refine callsIn_of_wp Tryz.func166 rfl trivial ?_ rfl
  simp only [Tryz.ntmps166, List.size_toArray, List.length_cons, List.length_nil, Nat.reduceAdd, Nat.reduceSub, Array.replicate_succ, Array.replicate_zero, List.push_toArray, List.append_toArray, List.nil_append, List.cons_append]
  gi_wp2
  gi_loopw [3] (fun c wr => ∃ k : Nat, k ≤ m ∧ c = .int .i64 ((m : Int) - 1 - k) ∧ J' k wr) (fun c wr => (intOf c + 1).toNat)
  case atStart => exact ⟨0, Nat.zero_le _, by simp, unhide H0⟩
  case round =>
    obtain ⟨k, hk, rfl, hj⟩ := hrel
    obtain ⟨cq, cells⟩ := unhide HJ k wr (unhide HJJ k wr hj)
    by_cases hlt : k < m
    · obtain ⟨p, hp⟩ : ∃ p, ps[m - 1 - k]? = some p := ⟨_, List.getElem?_eq_getElem (l := ps) (i := m - 1 - k) (by omega)⟩
      obtain ⟨e0, e1, e2, e3⟩ := cells _ p hp
      obtain ⟨i, hi⟩ : ∃ i, m - 1 - k = i := ⟨_, rfl⟩
      have hi2 : (m : Int) - 1 - k = (i : Int) := by omega
      have him : i < m := by omega
      rw [hi] at e0 e1 e2 e3
      obtain ⟨fn, tmps, assign, body, hy, hR⟩ := unhide HY k wr hlt hj
      unfold backE at hy
      rw [hm, hp] at hy
      simp only [ptV] at hy
      rw [hi2] at hy ⊢
      have HRR := hide hR; have HHI := hide (And.intro hi hi2)
      have hlt0 : ((0 : Int) ≤ i) = True := by simp
      have hlt1 : ((i : Int) < m) = True := by simp; omega
      clear hR cells H0 cl hj hi hi2 hp hm
      gi_wp2
      refine (unhide HRR).mono ?_
      clear hy HRR e0 e1 e2 e3 cq
      rintro e W3 (⟨rfl, hj3⟩ | ⟨rfl, hx3⟩ | ⟨ch, rfl, hp3⟩)
      · have HJ3 := hide hj3
        clear hj3
        gi_wp2
        obtain ⟨hi, hi2⟩ := unhide HHI
        exact ⟨⟨k + 1, by omega, by congr 1; omega, unhide HJ3⟩, by simp [intOf] <;> omega⟩
      · have HX3 := hide hx3
        clear hx3
        gi_wp2
        refine bodyPost_ret (results_none rfl _ _ _) rfl ?_
        exact .inr (.inl ⟨_, rfl, unhide HX3⟩)
      · exact ⟨rfl, .inr (.inr ⟨ch, rfl, hp3⟩)⟩
    · obtain rfl : k = m := by omega
      have HJ1 := hide hj
      have hlt0 : ((0 : Int) ≤ (k : Int) - 1 - k) = False := by simp; omega
      clear hj cells cq cl H0
      gi_wp2
      go_end0
      exact .inl ⟨_, rfl, unhide HJ1⟩
end
end
end Go.Proofs.YtflnaiijdpihcaaGreatDoor
