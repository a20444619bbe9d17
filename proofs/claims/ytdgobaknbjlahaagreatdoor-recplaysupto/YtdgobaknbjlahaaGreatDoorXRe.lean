/- Joined: Re Rf Rg. -/
import Derived.Test.YtdgobaknbjlahaaGreatDoorXRa
namespace Go.Proofs.YtdgobaknbjlahaaGreatDoor
open Go.RowKit

section
section
variable {nu sz : Nat} {w w' w0 : World} {hb sb b : Nat} {T : Tay} {A : Ab} {P : List (Int × Int)}

set_option maxRecDepth 20000 in
set_option maxHeartbeats 2000000 in
/-- A record's first piece, and how often it is held. -/
theorem r_beginning (h : Hp nu sz w hb sb b T A P) {p n q k : Nat} (pa : PtAt sz (says P A) p true n q) (hk : says P A (p + 1) = (k : Nat)) (k1 : 1 ≤ k) (k2 : k < 9223372036854775808) :
    Calls Tryz.prog 35 #[ptr sb, .int .i64 p] w fun e w' => e = .returned (ptV p true n (8 * q : Nat)) ∧ Still w w' := by
  obtain ⟨g1, g2, g3, g4, g5, g6⟩ := h.hp.geo.b
  have ss := sz_b true n
  have hs2 : 2 ≤ szN true n := by unfold szN ahd; simp; omega
  have hi := pa.hi
  obtain ⟨W, hW⟩ : ∃ W, w.alloc (.cells #[.int .i64 0, .int .u64 0, .int .i64 0, .int .i64 0] 71) = W := ⟨_, rfl⟩
  obtain ⟨g, hg⟩ : ∃ g, w.heap.size = g := ⟨_, rfl⟩
  have fW : Still w W := hW ▸ (Fr.refl _ w).alloc _
  have oR : W.heap[g]? = some (.cells #[.int .i64 0, .int .u64 0, .int .i64 0, .int .i64 0] 71 (0, 0)) := by
    have := heap_alloc_new w (.cells #[.int .i64 0, .int .u64 0, .int .i64 0, .int .i64 0] 71)
    rw [hW, hg] at this; exact this
  have ek : ((kdN true : Nat) : Int) = 1919247153 := by simp [kdN]
  have PA := r_partAt (h.still fW) pa
  unfold ptV at PA ⊢
  rw [ek] at PA ⊢
  obtain ⟨nx, hnx⟩ : ∃ nx, ((8 * q : Nat) : Int) = nx := ⟨_, rfl⟩
  rw [hnx] at PA ⊢
  have HPA := hide PA; have HH := hide h; have HW := hide hW; have HX := hide (And.intro fW oR); have HK := hide hk
  have hp4 : p + 2 ≤ sz := by omega
  clear PA h pa fW oR hW hk ek
  go_enter Tryz.func35, Tryz.ntmps35
  go_wp2_with fail
  rw [unhide HW]
  refine (unhide HPA).mono ?_
  clear HPA HW
  rintro e w1 ⟨rfl, f1⟩
  obtain ⟨fW, oR⟩ := unhide HX
  have f01 := fW.trans' f1 (fun _ x => x.elim)
  have oR1 := f1.obj oR (fun x => x)
  obtain ⟨W2, hW2⟩ : ∃ W2, w1.alloc (.cells #[.int .i64 p, .int .u64 1919247153, .int .i64 n, .int .i64 nx] 71) = W2 := ⟨_, rfl⟩
  have f2 : Still w1 W2 := hW2 ▸ (Fr.refl _ w1).alloc _
  have f02 := f01.trans' f2 (fun _ x => x.elim)
  have LD := ((unhide HH).still f02).load (p + 1) (by omega)
  rw [unhide HK] at LD
  have ep : ((p + 1 : Nat) : Int) = (p : Int) + 1 := by omega
  rw [ep] at LD
  have oB : W2.heap[w1.heap.size]? = some (.cells #[.int .i64 p, .int .u64 1919247153, .int .i64 n, .int .i64 nx] 71 (0, 0)) := hW2 ▸ heap_alloc_new w1 _
  have oR2 := f2.obj oR1 (fun x => x)
  have c0 : W2.cell? ⟨w1.heap.size, 0, none⟩ = some (.int .i64 p) := cell_of_obj oB 0
  have c1 : W2.cell? ⟨w1.heap.size, 1, none⟩ = some (.int .u64 1919247153) := cell_of_obj oB 1
  have c2 : W2.cell? ⟨w1.heap.size, 2, none⟩ = some (.int .i64 n) := cell_of_obj oB 2
  have c3 : W2.cell? ⟨w1.heap.size, 3, none⟩ = some (.int .i64 nx) := cell_of_obj oB 3
  have r0 : W2.cell? ⟨g, 0, none⟩ = some (.int .i64 0) := cell_of_obj oR2 0
  have r1 : W2.cell? ⟨g, 1, none⟩ = some (.int .u64 0) := cell_of_obj oR2 1
  have r2 : W2.cell? ⟨g, 2, none⟩ = some (.int .i64 0) := cell_of_obj oR2 2
  have r3 : W2.cell? ⟨g, 3, none⟩ = some (.int .i64 0) := cell_of_obj oR2 3
  have rz : ∀ o, W2.frozen? ⟨g, o, none⟩ = false := fun o => by simp [World.frozen?, oR2]
  have hkw := small_w64 (x := (k : Int)) (by omega)
  have hk1 : ((k : Int) < 1) = False := eq_false (by have := k1; clear k2 hkw; omega)
  have HLD := hide LD; have HW2 := hide hW2; have HF := hide (And.intro f02 (And.intro hg oR2))
  clear LD hW2 f02 f2 f01 f1 fW oR oR1 oR2 oB hg ep hs2 ss g1 g2 g3 g4
  go_wp2_with fail
  rw [unhide HW2]
  refine (unhide HLD).mono ?_
  clear HLD HW2
  rintro e w' ⟨rfl, hh⟩
  replace hh := hh.symm
  subst hh
  go_wp2
  obtain ⟨f04, hg, oR4⟩ := unhide HF
  have oF := heap_setCell_same _ g 3 _ _ (.int .i64 nx) (heap_setCell_same _ g 2 _ _ (.int .i64 n) (heap_setCell_same _ g 1 _ _ (.int .u64 1919247153) (heap_setCell_same W2 g 0 _ _ (.int .i64 p) oR4)))
  refine bodyPost_ret (results_cell_row Tryz.results35 _ _ g 71 #[.int .i64 p, .int .u64 1919247153, .int .i64 n, .int .i64 nx] (0, 0) _ (by rfl) oF Tryz.underlying71 rfl (by kernel_rfl)) rfl ?_
  refine ⟨rfl, ?_⟩
  have f5 : Fr (fun k => k = g) W2 ((((W2.setCell ⟨g, 0, none⟩ (.int .i64 p)).setCell ⟨g, 1, none⟩ (.int .u64 1919247153)).setCell ⟨g, 2, none⟩ (.int .i64 n)).setCell ⟨g, 3, none⟩ (.int .i64 nx)) := ((((Fr.refl (fun k => k = g) W2).setCell (.inl rfl) _).setCell (.inl rfl) _).setCell (.inl rfl) _).setCell (.inl rfl) _
  exact f04.trans' f5 (fun k hk => .inr (by omega))
end
end

section
/-- The line of the next piece; 0: none. -/
def nxq (nu : Nat) : List Nat → Nat
  | [] => 0
  | u :: _ => (fi nu + 8 * u) / 8
/-- Pieces at these units are a chain of n bytes. -/
def Chain (nu sz : Nat) (f : Nat → Int) : Bool → Nat → List Nat → Prop
  | _, _, [] => False
  | fr, n, u :: us => PtAt sz f (fi nu + 8 * u) fr n (nxq nu us) ∧ Tkn nu f u fr n ∧ (us = [] ∨ Chain nu sz f false (bhN fr n) us)
/-- The parts of a chain. -/
def chP (nu : Nat) : Bool → Nat → List Nat → List Prt
  | _, _, [] => []
  | fr, n, u :: us => ⟨(fi nu + 8 * u : Nat), fr, n, (8 * nxq nu us : Nat)⟩ :: chP nu false (bhN fr n) us

theorem chP_len (nu : Nat) : ∀ (fr : Bool) (n : Nat) (us : List Nat), (chP nu fr n us).length = us.length
  | _, _, [] => rfl
  | fr, n, u :: us => by simp [chP, chP_len nu false (bhN fr n) us]
theorem nxq_ne {nu u : Nat} {us : List Nat} : nxq nu (u :: us) ≠ 0 ∧ 8 * nxq nu (u :: us) = fi nu + 8 * u := by
  have h := fi_8 nu; have h2 := fi_ge nu; have h3 := aw_ge nu
  simp only [nxq]
  generalize fi nu = F at *
  exact ⟨by omega, by omega⟩

/-- A part in a block of its own. -/
def PB (w : World) (g : Nat) (at_ : Int) (fr : Bool) (n : Nat) (nx : Int) : Prop := w.heap[g]? = some (.cells #[.int .i64 at_, .int .u64 (kdN fr), .int .i64 n, .int .i64 nx] 71 (0, 0))
section
variable {w w' : World} {g : Nat} {at_ nx : Int} {fr : Bool} {n : Nat}
theorem PB.still (h : PB w g at_ fr n nx) {F : Nat → Prop} (f : Fr F w w') (hn : ¬ F g) : PB w' g at_ fr n nx := f.obj h hn
theorem PB.cells (h : PB w g at_ fr n nx) : w.cell? ⟨g, 0, none⟩ = some (.int .i64 at_) ∧ w.cell? ⟨g, 1, none⟩ = some (.int .u64 (kdN fr)) ∧ w.cell? ⟨g, 2, none⟩ = some (.int .i64 n) ∧ w.cell? ⟨g, 3, none⟩ = some (.int .i64 nx) ∧ ∀ o, w.frozen? ⟨g, o, none⟩ = false :=
  ⟨cell_of_obj h 0, cell_of_obj h 1, cell_of_obj h 2, cell_of_obj h 3, fun o => by unfold PB at h; simp [World.frozen?, h]⟩
/-- Another part is stored there. -/
abbrev stP (w : World) (g : Nat) (at_ : Int) (k : Int) (n : Nat) (nx : Int) : World := (((w.setCell ⟨g, 0, none⟩ (.int .i64 at_)).setCell ⟨g, 1, none⟩ (.int .u64 k)).setCell ⟨g, 2, none⟩ (.int .i64 n)).setCell ⟨g, 3, none⟩ (.int .i64 nx)
theorem PB.set (h : PB w g at_ fr n nx) (a' : Int) (fr' : Bool) (n' : Nat) (nx' : Int) : PB (stP w g a' (kdN fr') n' nx') g a' fr' n' nx' ∧ Fr (fun k => k = g) w (stP w g a' (kdN fr') n' nx') :=
  ⟨heap_setCell_same _ g 3 _ _ (.int .i64 nx') (heap_setCell_same _ g 2 _ _ (.int .i64 n') (heap_setCell_same _ g 1 _ _ (.int .u64 (kdN fr')) (heap_setCell_same w g 0 _ _ (.int .i64 a') h))), ((((Fr.refl (fun k => k = g) w).setCell (.inl rfl) _).setCell (.inl rfl) _).setCell (.inl rfl) _).setCell (.inl rfl) _⟩
end

section
variable {nu sz : Nat} {w w' w0 : World} {hb sb b : Nat} {T : Tay} {A : Ab} {P : List (Int × Int)}

/-- In the midst of the pieces: those that are told, the last of them, those that are left. -/
structure InP (nu sz : Nat) (f : Nat → Int) (n0 : Nat) (all : List Nat) (done : List Prt) (fr : Bool) (n u : Nat) (rest : List Nat) : Prop where
  eq : chP nu true n0 all = done ++ chP nu false (bhN fr n) rest
  ch : rest = [] ∨ Chain nu sz f false (bhN fr n) rest
  len : done.length + rest.length = all.length
  n4 : n ≤ 4096
  d1 : 1 ≤ done.length

set_option maxRecDepth 20000 in
set_option maxHeartbeats 4000000 in
theorem r_parts (h : Hp nu sz w hb sb b T A P) (s : HpS nu (says P A)) {n k u : Nat} {us : List Nat} (ch : Chain nu sz (says P A) true n (u :: us)) (hl : us.length ≤ 15) (hk : says P A (fi nu + 8 * u + 1) = (k : Nat)) (k1 : 1 ≤ k) (k2 : k < 9223372036854775808) :
    Calls Tryz.prog 37 #[ptr sb, ptr hb, .int .i64 (fi nu + 8 * u : Nat)] w fun e w' => ∃ g cap, e = .returned (.slice (some ⟨g, 0, none⟩) (us.length + 1) cap) ∧ PR w' w.heap.size (.slice (some ⟨g, 0, none⟩) (us.length + 1) cap) (chP nu true n (u :: us)) ∧ Still w w' := by
  obtain ⟨pa, tk, ch'⟩ := ch
  have n4 := pa.n4
  have BG := r_beginning h pa hk k1 k2
  have HBG := hide BG; have HH := hide h; have HS := hide s; have HTK := hide tk; have HCH := hide ch'
  clear BG h s tk ch' pa hk k1 k2
  unfold ptV at HBG
  obtain ⟨p0, hp0⟩ : ∃ p0 : Int, ((fi nu + 8 * u : Nat) : Int) = p0 := ⟨_, rfl⟩
  obtain ⟨nx, hnx⟩ : ∃ nx : Int, ((8 * nxq nu us : Nat) : Int) = nx := ⟨_, rfl⟩
  rw [hp0, hnx] at HBG
  rw [hp0]
  go_enter Tryz.func37, Tryz.ntmps37
  go_wp2_with fail
  refine (unhide HBG).mono ?_
  clear HBG
  rintro e w1 ⟨rfl, f1⟩
  obtain ⟨W, hW⟩ : ∃ W, w1.alloc (.cells #[.int .i64 p0, .int .u64 (kdN true), .int .i64 n, .int .i64 nx] 71) = W := ⟨_, rfl⟩
  obtain ⟨g, hg⟩ : ∃ g, w1.heap.size = g := ⟨_, rfl⟩
  have fW : Still w1 W := hW ▸ (Fr.refl _ w1).alloc _
  have f0W := f1.trans' fW (fun _ x => x.elim)
  have pb : PB W g p0 true n nx := by
    have := heap_alloc_new w1 (.cells #[.int .i64 p0, .int .u64 (kdN true), .int .i64 n, .int .i64 nx] 71)
    rw [hW, hg] at this; exact this
  have MB := r_must ((unhide HH).still f0W) (unhide HS) true n u nx (by omega) (unhide HTK)
  unfold ptV at MB
  rw [show ((fi nu : Int) + u * 8) = p0 by omega] at MB
  obtain ⟨c0, c1, c2, c3, cz⟩ := pb.cells
  have HMB := hide MB; have HW := hide hW; have HX := hide (And.intro f0W pb); have HG := hide (And.intro hg f1.size)
  clear MB hW f0W fW pb f1
  go_wp2_with fail
  rw [unhide HW]
  refine (unhide HMB).mono ?_
  clear HMB HW c0 c1 c2 c3 cz
  rintro e w2 ⟨rfl, f2⟩
  obtain ⟨f0W, pb⟩ := unhide HX
  have f02 := f0W.trans' f2 (fun _ x => x.elim)
  have pb2 := pb.still f2 (fun x => x)
  obtain ⟨W3, hW3⟩ : ∃ W3, w2.alloc (.cells #[.int .i64 p0, .int .u64 (kdN true), .int .i64 n, .int .i64 nx] 71) = W3 := ⟨_, rfl⟩
  have f3 : Still w2 W3 := hW3 ▸ (Fr.refl _ w2).alloc _
  have f03 := f02.trans' f3 (fun _ x => x.elim)
  have pb3 := pb2.still f3 (fun x => x)
  have pr3 : PR W3 w.heap.size (.slice (some ⟨w2.heap.size, 0, none⟩) 1 1) [⟨p0, true, n, nx⟩] := by
    have := heap_alloc_new w2 (.cells #[.int .i64 p0, .int .u64 (kdN true), .int .i64 n, .int .i64 nx] 71)
    rw [hW3] at this
    exact ⟨rfl, .inr ⟨w2.heap.size, 1, _, rfl, f02.size, this, Nat.le_refl _, by unfold maxLen; omega, rfl, rfl⟩⟩
  obtain ⟨c0, c1, c2, c3, cz⟩ := pb2.cells
  have ltg : g < w2.heap.size := World.block_lt_of_cell? _ _ c0
  have hgw : w.heap.size ≤ g := by have := unhide HG; omega
  have in0 : InP nu sz (says P A) n (u :: us) [⟨p0, true, n, nx⟩] true n u us := ⟨by rw [← hp0, ← hnx]; rfl, unhide HCH, by simp; omega, n4, by simp⟩
  have HW3 := hide hW3; have HX3 := hide (And.intro f03 (And.intro pb3 (And.intro pr3 in0)))
  clear hW3 f03 f3 f02 f2 pb2 pb3 pb pr3 f0W HX in0 HTK HCH
  go_wp2_with fail
  rw [unhide HW3]
  clear HW3 c0 c1 c2 c3 cz hg HG
  have HNX := hide (And.intro hp0 hnx)
  clear hp0 hnx
  generalize hg2 : w2.heap.size = g2 at *
  have g2ne : g ≠ g2 := by omega
  clear hg2
  go_loopw [8, 9] (fun v nv wr => ∃ (g8 cap : Nat) (done : List Prt) (fr : Bool) (m x : Nat) (a : Int) (rest : List Nat), v = .slice (some ⟨g8, 0, none⟩) done.length cap ∧ g8 ≠ g ∧ InP nu sz (says P A) n (u :: us) done fr m x rest ∧ PB wr g a fr m (8 * nxq nu rest : Nat) ∧ PR wr w.heap.size (.slice (some ⟨g8, 0, none⟩) done.length cap) done ∧ Still w wr) (fun v nv wr => match v with | .slice _ k _ => 40 - k | _ => 0)
  case atStart =>
    obtain ⟨f03, pb3, pr3, in0⟩ := unhide HX3
    have := (unhide HNX).2
    exact ⟨g2, 1, [⟨p0, true, n, nx⟩], true, n, u, p0, us, rfl, fun e => g2ne e.symm, in0, by rw [this]; exact pb3, pr3, f03⟩
  case round =>
    clear HX3 HNX g2ne ltg
    obtain ⟨g8, cap, done, fr, m, x, a, rest, rfl, hne, inp, pb, pr, fq⟩ := hrel
    generalize wr = wq at *
    clear wr
    obtain ⟨c0, c1, c2, c3, cz⟩ := pb.cells
    cases rest with
    | nil =>
      have e0 : ((8 * nxq nu [] : Nat) : Int) = 0 := rfl
      rw [e0] at c3
      have hlen := inp.len
      have heq := inp.eq
      have HX := hide (And.intro pr (And.intro fq (And.intro hlen heq)))
      clear pr fq pb inp hlen heq e0
      obtain ⟨dl, hdl⟩ : ∃ dl, done.length = dl := ⟨_, rfl⟩
      have HDL := hide hdl
      rw [hdl]
      clear hdl
      go_wp2
      go_ret
      obtain ⟨pr, fq, hlen, heq⟩ := unhide HX
      have hdl := unhide HDL
      simp at hlen
      refine ⟨g8, cap, ?_, ?_, fq⟩
      · show Ending.returned (.slice (some ⟨g8, 0, none⟩) dl cap) = _
        rw [← hlen, hdl]
      rw [heq]
      simp only [chP, List.append_nil]
      rw [← hlen]; exact pr
    | cons y rest =>
      obtain ⟨pa, tk, ch'⟩ := inp.ch.resolve_left (by simp)
      obtain ⟨q1, q2⟩ := nxq_ne (nu := nu) (u := y) (us := rest)
      have n4m := inp.n4
      have bm := bh_le fr m
      have BH := p_behind a fr m (8 * nxq nu (y :: rest) : Nat) (by omega) wq
      have ek : ((kdN false : Nat) : Int) = 1919247147 := by simp [kdN]
      have PA : ∀ w4, Still w w4 → Calls Tryz.prog 68 #[ptr sb, .int .i64 (fi nu + 8 * y : Nat), .int .u64 1919247147] w4 fun e w' => e = .returned (.agg #[.int .i64 (fi nu + 8 * y : Nat), .int .u64 (kdN false), .int .i64 (bhN fr m), .int .i64 (8 * nxq nu rest : Nat)]) ∧ Still w4 w' := fun w4 f4 => by
        have := r_partAt ((unhide HH).still f4) pa
        rw [ek] at this ⊢
        unfold ptV at this
        rw [ek] at this
        exact this
      have MB : ∀ w4, Still w w4 → Calls Tryz.prog 34 #[ptr hb, .agg #[.int .i64 (fi nu + 8 * y : Nat), .int .u64 (kdN false), .int .i64 (bhN fr m), .int .i64 (8 * nxq nu rest : Nat)]] w4 fun e w' => e = .returned (.tuple #[]) ∧ Still w4 w' := fun w4 f4 => by
        have := r_must ((unhide HH).still f4) (unhide HS) false (bhN fr m) y (8 * nxq nu rest : Nat) (by omega) tk
        unfold ptV at this
        rw [show ((fi nu : Int) + y * 8) = ((fi nu + 8 * y : Nat) : Int) by omega] at this
        exact this
      rw [q2] at BH c3 pb
      have inp2 : InP nu sz (says P A) n (u :: us) (done ++ [⟨(fi nu + 8 * y : Nat), false, bhN fr m, (8 * nxq nu rest : Nat)⟩]) false (bhN fr m) y rest := by
        refine ⟨?_, ch', ?_, by omega, by simp⟩
        · rw [inp.eq]; simp [chP]
        · have := inp.len; simp at this ⊢; omega
      have hp1 : (((fi nu + 8 * y : Nat) : Int) != 0) = true := by have := fi_ge nu; have := aw_ge nu; simp; omega
      have hlen := inp.len
      have hdn : done.length ≤ 16 := by simp at hlen; omega
      unfold ptV at BH
      have HBH := hide BH; have HPA := @hide _ PA; have HMB := @hide _ MB; have HX := hide (And.intro pb (And.intro pr (And.intro fq inp2)))
      clear BH PA MB inp inp2 pb pr fq pa tk ch' ek q1 q2 hlen bm n4m
      generalize hP1 : ((fi nu + 8 * y : Nat) : Int) = p1 at *
      generalize hNX : ((8 * nxq nu rest : Nat) : Int) = nx1 at *
      generalize hBM : bhN fr m = m1 at *
      have HE := hide (And.intro hP1 (And.intro hNX hBM))
      clear hP1 hNX hBM
      obtain ⟨dl, hdl⟩ : ∃ dl, done.length = dl := ⟨_, rfl⟩
      have HDL := hide hdl
      rw [hdl] at hdn ⊢
      clear hdl
      go_wp2_with fail
      refine (unhide HBH).mono ?_
      clear HBH
      rintro e w3 ⟨rfl, f3⟩
      obtain ⟨pb, pr, fq, inp2⟩ := unhide HX
      have f03 := fq.trans' f3 (fun _ x => x.elim)
      have pb3 := pb.still f3 (fun x => x)
      obtain ⟨d0, d1, d2, d3, dz⟩ := pb3.cells
      have PA1 := unhide HPA w3 f03
      have HPA1 := hide PA1; have HX3 := hide (And.intro f03 (And.intro pb3 (And.intro (pr.still f3) inp2)))
      clear PA1 f03 pb3 f3 pb pr fq inp2 HX c0 c1 c2 c3 cz HPA
      go_wp2_with fail
      refine (unhide HPA1).mono ?_
      clear HPA1
      rintro e w4 ⟨rfl, f4⟩
      obtain ⟨f03, pb3, pr3, inp2⟩ := unhide HX3
      have f04 := f03.trans' f4 (fun _ x => x.elim)
      have pb4 := pb3.still f4 (fun x => x)
      obtain ⟨r0, r1, r2, r3, rz⟩ := pb4.cells
      obtain ⟨pb5, f5⟩ := pb4.set p1 false m1 nx1
      have pr5 := (pr3.still f4).kept f5 (fun k hk e => by have e : k = g := e; simp [Value.ownBlock] at hk; omega)
      obtain ⟨W5, hW5⟩ : ∃ W5, stP w4 g p1 (kdN false) m1 nx1 = W5 := ⟨_, rfl⟩
      rw [hW5] at pb5 f5 pr5
      have f05 := f04.trans' f5 (fun k hk => .inr (by omega))
      obtain ⟨s0, s1, s2, s3, sz'⟩ := pb5.cells
      have MB1 := unhide HMB W5 f05
      have HMB1 := hide MB1; have HW5 := hide hW5; have HX5 := hide (And.intro f05 (And.intro pb5 (And.intro pr5 inp2)))
      clear MB1 hW5 f05 f5 pb5 pr5 f04 f4 pb4 pb3 pr3 f03 HX3 d0 d1 d2 d3 dz HMB inp2
      go_upto_region 7 with fail
      have h5 := unhide HW5
      unfold stP at h5
      rw [h5]
      clear h5
      clear r0 r1 r2 r3 rz HW5
      go_wp2_with fail
      refine (unhide HMB1).mono ?_
      clear HMB1
      rintro e w6 ⟨rfl, f6⟩
      obtain ⟨f05, pb5, pr5, inp2⟩ := unhide HX5
      have f06 := f05.trans' f6 (fun _ x => x.elim)
      have pb6 := pb5.still f6 (fun x => x)
      have pr6 := pr5.still f6
      obtain ⟨v7, w7, hap, pr7, fr7, loc7⟩ := run_prt w6 w.heap.size 64 _ done pr6 ⟨p1, false, m1, nx1⟩ (by have := unhide HDL; omega) f06.size
      have hdl := unhide HDL
      obtain ⟨g7, cap7, ev7⟩ : ∃ g7 cap7, v7 = .slice (some ⟨g7, 0, none⟩) (dl + 1) cap7 := by
        rcases pr7.form with ⟨_, e⟩ | ⟨g7, cap7, e, _⟩
        · simp at e
        · exact ⟨g7, cap7, by rw [e, ← hdl]; simp⟩
      subst ev7
      have f07 := f06.trans' fr7 (fun k hk => .inr (World.ownsRow.lt pr6 k hk).1)
      have pb7 := pb6.still fr7 (fun e => by simp [Value.ownBlock] at e; omega)
      obtain ⟨t0, t1, t2, t3, tz⟩ := pb6.cells
      have hg7 : g7 ≠ g := by
        rcases loc7 with e | e
        · simp [Value.ownBlock] at e; omega
        · simp [Value.ownBlock] at e; have := World.block_lt_of_cell? _ _ t0; simp at this; omega
      rw [hdl] at hap
      have HAP := hide hap; have HX7 := hide (And.intro f07 (And.intro pb7 (And.intro pr7 inp2)))
      clear hap f07 pb7 pr7 fr7 loc7 f06 pb6 pr6 f05 pb5 pr5 inp2 f6 HX5 s0 s1 s2 s3 sz' hdl
      go_wp2_with (first | (at_builtin; refine wpList_append_run rfl (.tmp 35) (.tmp 37) 64 rfl _ _ rfl rfl (.slice (some ⟨g7, 0, none⟩) (dl + 1) cap7) w7 (unhide HAP) ?_) | fail)
      obtain ⟨f07, pb7, pr7, inp2⟩ := unhide HX7
      have hdl := unhide HDL
      obtain ⟨e1, e2, e3⟩ := unhide HE
      refine ⟨⟨g7, cap7, done ++ [⟨p1, false, m1, nx1⟩], false, m1, y, p1, rest, by rw [List.length_append, hdl]; rfl, hg7, inp2, by rw [e2]; exact pb7, by rw [List.length_append, hdl]; exact pr7, f07⟩, ?_⟩
      have := hdn
      simp
      omega
end
end

section
/-- The words of a chain's bytes, from the o-th on. -/
def Data (nu : Nat) (f : Nat → Int) (wd : Nat → Nat) : Bool → Nat → Nat → List Nat → Prop
  | _, _, _, [] => True
  | fr, o, n, u :: us => (∀ i, i < szN fr n - ahd fr → f (fi nu + 8 * u + ahd fr + i) = ((wd (o + i) : Nat) : Int)) ∧ Data nu f wd false (o + (szN fr n - ahd fr)) (bhN fr n) us

/-- A record of n bytes in the pieces at u, us, held k times; its words are wd. -/
structure RecS (nu sz : Nat) (f : Nat → Int) (u : Nat) (us : List Nat) (n k : Nat) (wd : Nat → Nat) : Prop where
  ch : Chain nu sz f true n (u :: us)
  len : us.length ≤ 15
  hk : f (fi nu + 8 * u + 1) = (k : Nat)
  k1 : 1 ≤ k
  k2 : k < 1000000
  da : Data nu f wd true 0 n (u :: us)
  nd : (u :: us).Nodup

theorem field_n (a d : Int) (k n : Int) (w : World) : (Instr.field 71 (.agg #[.int .i64 a, .int .u64 k, .int .i64 n, .int .i64 d]) 2).run Tryz.prog w = .ok (.int .i64 n) w := by kernel_rfl

section
variable {nu sz : Nat} {w w' w0 : World} {hb sb b : Nat} {T : Tay} {A : Ab} {P : List (Int × Int)} {u n k : Nat} {us : List Nat} {wd : Nat → Nat}

theorem RecS.hi (r : RecS nu sz (says P A) u us n k wd) : fi nu + 8 * u + 2 ≤ sz := by
  have := r.ch.1.hi
  have hs2 : 2 ≤ szN true n := by unfold szN ahd; simp; omega
  omega
theorem RecS.begins (h : Hp nu sz w hb sb b T A P) (r : RecS nu sz (says P A) u us n k wd) : Calls Tryz.prog 35 #[ptr sb, .int .i64 (fi nu + 8 * u : Nat)] w fun e w' => e = .returned (ptV (fi nu + 8 * u : Nat) true n (8 * nxq nu us : Nat)) ∧ Still w w' :=
  r_beginning h r.ch.1 r.hk r.k1 (by have := r.k2; omega)

set_option maxRecDepth 20000 in
set_option maxHeartbeats 1000000 in
theorem r_len (h : Hp nu sz w hb sb b T A P) (r : RecS nu sz (says P A) u us n k wd) :
    Calls Tryz.prog 22 #[ptr sb, .int .i64 (fi nu + 8 * u : Nat)] w fun e w' => e = .returned (.int .i64 n) ∧ Still w w' := by
  have HB := hide (r.begins h)
  unfold ptV at HB
  clear h r
  generalize ((fi nu + 8 * u : Nat) : Int) = p at *
  generalize ((8 * nxq nu us : Nat) : Int) = nx at *
  have fl := field_n
  go_enter Tryz.func22, Tryz.ntmps22
  go_wp2_with fail
  refine (unhide HB).mono ?_
  clear HB
  rintro e w1 ⟨rfl, f1⟩
  have HF := hide f1
  clear f1
  go_wp2
  go_ret
  exact ⟨rfl, unhide HF⟩

set_option maxRecDepth 20000 in
set_option maxHeartbeats 1000000 in
theorem r_held (h : Hp nu sz w hb sb b T A P) (r : RecS nu sz (says P A) u us n k wd) :
    Calls Tryz.prog 23 #[ptr sb, .int .i64 (fi nu + 8 * u : Nat)] w fun e w' => e = .returned (.int .i64 k) ∧ Still w w' := by
  have HB := hide (r.begins h)
  unfold ptV at HB
  have hi := r.hi
  obtain ⟨g1, g2, g3, g4, g5, g6⟩ := h.hp.geo.b
  have LD : ∀ w1, Still w w1 → Calls Tryz.prog 36 #[ptr sb, .int .i64 (((fi nu + 8 * u : Nat) : Int) + 1)] w1 fun e w' => e = .returned (u64 (k : Nat)) ∧ w' = w1 := fun w1 f1 => by
    have := (h.still f1).load (fi nu + 8 * u + 1) (by omega)
    rw [r.hk] at this
    exact this
  have k2 := r.k2
  have hkw := small_w64 (x := (k : Int)) (by omega)
  have HLD := @hide _ LD
  have hp4 : fi nu + 8 * u ≤ 40000 := by omega
  clear h r LD g1 g2 g3 g4 g5 g6 hi
  generalize fi nu + 8 * u = p at *
  generalize ((8 * nxq nu us : Nat) : Int) = nx at *
  go_enter Tryz.func23, Tryz.ntmps23
  go_wp2_with fail
  refine (unhide HB).mono ?_
  clear HB
  rintro e w1 ⟨rfl, f1⟩
  have LD1 := hide (unhide HLD w1 f1)
  have HF := hide f1
  clear f1 HLD
  go_wp2_with (go_at_call 36; refine (unhide LD1).mono ?_; rintro e w' ⟨rfl, hh⟩; replace hh := hh.symm; subst hh)
  go_ret
  exact ⟨by simp, unhide HF⟩

set_option maxRecDepth 20000 in
set_option maxHeartbeats 1000000 in
theorem r_hold (h : Hp nu sz w hb sb b T A P) (hm : P.length < 6144) (r : RecS nu sz (says P A) u us n k wd) :
    Calls Tryz.prog 11 #[ptr sb, .int .i64 (fi nu + 8 * u : Nat)] w fun e w' => e = .returned (.tuple #[]) ∧ To sz w sb b T A w' (upd (says P A) (fi nu + 8 * u + 1) ((k + 1 : Nat) : Int)) (P.length + 1) := by
  have HB := hide (r.begins h)
  unfold ptV at HB
  have hi := r.hi
  obtain ⟨g1, g2, g3, g4, g5, g6⟩ := h.hp.geo.b
  have LD : ∀ w1, Still w w1 → Calls Tryz.prog 36 #[ptr sb, .int .i64 (((fi nu + 8 * u : Nat) : Int) + 1)] w1 fun e w' => e = .returned (u64 (k : Nat)) ∧ w' = w1 := fun w1 f1 => by
    have := (h.still f1).load (fi nu + 8 * u + 1) (by omega)
    rw [r.hk] at this
    exact this
  have PU : ∀ w1, Still w w1 → Calls Tryz.prog 30 #[ptr sb, .int .i64 (((fi nu + 8 * u : Nat) : Int) + 1), u64 ((k : Int) + 1)] w1 fun e w' => e = .returned (.tuple #[]) ∧ To sz w1 sb b T A w' (upd (says P A) (fi nu + 8 * u + 1) ((k : Int) + 1)) (P.length + 1) := fun w1 f1 =>
    (h.still f1).put hm (fi nu + 8 * u + 1) (by omega) ((k : Int) + 1)
  have k2 := r.k2
  have hkw : IntKind.u64.wrap ((k : Int) + 1) = (k : Int) + 1 := by rw [IntKind.wrap_u64]; omega
  have HLD := @hide _ LD; have HPU := @hide _ PU
  have hp4 : fi nu + 8 * u ≤ 40000 := by omega
  rw [show ((k + 1 : Nat) : Int) = (k : Int) + 1 by omega]
  clear h r LD PU g1 g2 g3 g4 g5 g6 hi hm
  generalize fi nu + 8 * u = p at *
  generalize ((8 * nxq nu us : Nat) : Int) = nx at *
  go_enter Tryz.func11, Tryz.ntmps11
  go_wp2_with fail
  refine (unhide HB).mono ?_
  clear HB
  rintro e w1 ⟨rfl, f1⟩
  have LD1 := hide (unhide HLD w1 f1); have PU1 := hide (unhide HPU w1 f1)
  have HF := hide f1
  clear f1 HLD HPU
  go_wp2_with (first | (go_at_call 36; refine (unhide LD1).mono ?_; rintro e w' ⟨rfl, hh⟩; replace hh := hh.symm; subst hh) | fail)
  refine (unhide PU1).mono ?_
  clear PU1 LD1
  rintro e w2 ⟨rfl, t⟩
  have HT := hide (t.after (unhide HF))
  clear t
  go_wp2
  go_end0
  exact ⟨rfl, unhide HT⟩
end
end
end Go.Proofs.YtdgobaknbjlahaaGreatDoor
