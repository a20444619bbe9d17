/- Joined: Rf Rg Rm Rn Rr Pq Rq. -/
import Derived.Test.YtflnaiijdpihcaaGreatDoorP11
import Derived.Test.YtflnaiijdpihcaaGreatDoorP12
namespace Go.Proofs.YtflnaiijdpihcaaGreatDoor
open Go.RowKit

section
def nxq (nu : Nat) : List Nat → Nat
  | [] => 0
  | u :: _ => (fi nu + 8 * u) / 8
def Chain (nu sz : Nat) (f : Nat → Int) : Bool → Nat → List Nat → Prop
  | _, _, [] => False
  | fr, n, u :: us => PtAt sz f (fi nu + 8 * u) fr n (nxq nu us) ∧ Tkn nu f u ∧ (us = [] ∨ Chain nu sz f false (bhN fr n) us)
def chP (nu : Nat) : Bool → Nat → List Nat → List Prt
  | _, _, [] => []
  | fr, n, u :: us => ⟨(fi nu + 8 * u : Nat), fr, n, (8 * nxq nu us : Nat)⟩ :: chP nu false (bhN fr n) us

theorem chP_len (nu : Nat) : ∀ (fr : Bool) (n : Nat) (us : List Nat), (chP nu fr n us).length = us.length
  | _, _, [] => rfl
  | fr, n, u :: us => by simp [chP, chP_len nu false (bhN fr n) us]
theorem nxq_ne {nu u : Nat} {us : List Nat} : nxq nu (u :: us) ≠ 0 ∧ 8 * nxq nu (u :: us) = fi nu + 8 * u := by
  have h := fi_8 nu; have h2 := fi_ge nu; have h3 := aw_ge nu
  simp only [nxq]
  generalize fi nu = F at *
  exact ⟨by omega, by omega⟩

def PB (w : World) (g : Nat) (at_ : Int) (fr : Bool) (n : Nat) (nx : Int) : Prop := w.heap[g]? = some (.cells #[.int .i64 at_, .int .u64 (kdN fr), .int .i64 n, .int .i64 nx] 101 (0, 0))
section
variable {w w' : World} {g : Nat} {at_ nx : Int} {fr : Bool} {n : Nat}
theorem PB.still (h : PB w g at_ fr n nx) {F : Nat → Prop} (f : Fr F w w') (hn : ¬ F g) : PB w' g at_ fr n nx := f.obj h hn
theorem PB.cells (h : PB w g at_ fr n nx) : w.cell? ⟨g, 0, none⟩ = some (.int .i64 at_) ∧ w.cell? ⟨g, 1, none⟩ = some (.int .u64 (kdN fr)) ∧ w.cell? ⟨g, 2, none⟩ = some (.int .i64 n) ∧ w.cell? ⟨g, 3, none⟩ = some (.int .i64 nx) ∧ ∀ o, w.frozen? ⟨g, o, none⟩ = false :=
  ⟨cell_of_obj h 0, cell_of_obj h 1, cell_of_obj h 2, cell_of_obj h 3, fun o => by unfold PB at h; simp [World.frozen?, h]⟩
abbrev stP (w : World) (g : Nat) (at_ : Int) (k : Int) (n : Nat) (nx : Int) : World := (((w.setCell ⟨g, 0, none⟩ (.int .i64 at_)).setCell ⟨g, 1, none⟩ (.int .u64 k)).setCell ⟨g, 2, none⟩ (.int .i64 n)).setCell ⟨g, 3, none⟩ (.int .i64 nx)
theorem PB.set (h : PB w g at_ fr n nx) (a' : Int) (fr' : Bool) (n' : Nat) (nx' : Int) : PB (stP w g a' (kdN fr') n' nx') g a' fr' n' nx' ∧ Fr (fun k => k = g) w (stP w g a' (kdN fr') n' nx') :=
  ⟨heap_setCell_same _ g 3 _ _ (.int .i64 nx') (heap_setCell_same _ g 2 _ _ (.int .i64 n') (heap_setCell_same _ g 1 _ _ (.int .u64 (kdN fr')) (heap_setCell_same w g 0 _ _ (.int .i64 a') h))), ((((Fr.refl (fun k => k = g) w).setCell (.inl rfl) _).setCell (.inl rfl) _).setCell (.inl rfl) _).setCell (.inl rfl) _⟩
end

section
variable {nu sz : Nat} {w w' w0 : World} {hb sb b : Nat} {T : Tay} {A : Ab} {P : List (Int × Int)}

structure InP (nu sz : Nat) (f : Nat → Int) (n0 : Nat) (all : List Nat) (done : List Prt) (fr : Bool) (n u : Nat) (rest : List Nat) : Prop where
  eq : chP nu true n0 all = done ++ chP nu false (bhN fr n) rest
  ch : rest = [] ∨ Chain nu sz f false (bhN fr n) rest
  len : done.length + rest.length = all.length
  n4 : n ≤ 4096
  d1 : 1 ≤ done.length

set_option maxRecDepth 20000 in
set_option maxHeartbeats 4000000 in
theorem r_parts (h : Hp nu sz w hb sb b T A P) (s : HpS nu (says P A)) {n k u : Nat} {us : List Nat} (ch : Chain nu sz (says P A) true n (u :: us)) (hl : us.length ≤ 16) (hk : says P A (fi nu + 8 * u + 1) = (k : Nat)) (k1 : 1 ≤ k) (k2 : k < 9223372036854775808) :
    Calls Tryz.prog 63 #[ptr sb, ptr hb, .int .i64 (fi nu + 8 * u : Nat)] w fun e w' => ∃ g cap, e = .returned (.slice (some ⟨g, 0, none⟩) (us.length + 1) cap) ∧ PR w' w.heap.size (.slice (some ⟨g, 0, none⟩) (us.length + 1) cap) (chP nu true n (u :: us)) ∧ Still w w' := by
  obtain ⟨pa, tk, ch'⟩ := ch
  have n4 := pa.n4
  have BG := r_beginning h pa hk k1 k2
  have HBG := hide BG; have HH := hide h; have HS := hide s; have HTK := hide tk; have HCH := hide ch'
  clear BG h s tk ch' pa hk k1 k2
  unfold ptV at HBG
  obtain ⟨p0, hp0⟩ : ∃ p0 : Int, ((fi nu + 8 * u : Nat) : Int) = p0 := ⟨_, rfl⟩
  obtain ⟨nx, hnx⟩ : ∃ nx : Int, ((8 * nxq nu us : Nat) : Int) = nx := ⟨_, rfl⟩
  rw [hp0, hnx] at HBG
  rw [hp0]
  go_enter Tryz.func63, Tryz.ntmps63
  go_wp2_with fail
  refine (unhide HBG).mono ?_
  clear HBG
  rintro e w1 ⟨rfl, f1⟩
  obtain ⟨W, hW⟩ : ∃ W, w1.alloc (.cells #[.int .i64 p0, .int .u64 (kdN true), .int .i64 n, .int .i64 nx] 101) = W := ⟨_, rfl⟩
  obtain ⟨g, hg⟩ : ∃ g, w1.heap.size = g := ⟨_, rfl⟩
  have fW : Still w1 W := hW ▸ (Fr.refl _ w1).alloc _
  have f0W := f1.trans' fW (fun _ x => x.elim)
  have pb : PB W g p0 true n nx := by
    have := heap_alloc_new w1 (.cells #[.int .i64 p0, .int .u64 (kdN true), .int .i64 n, .int .i64 nx] 101)
    rw [hW, hg] at this; exact this
  have MB := r_must ((unhide HH).still f0W) (unhide HS) u true n nx (unhide HTK)
  unfold ptV at MB
  rw [show ((fi nu : Int) + u * 8) = p0 by omega] at MB
  obtain ⟨c0, c1, c2, c3, cz⟩ := pb.cells
  have HMB := hide MB; have HW := hide hW; have HX := hide (And.intro f0W pb); have HG := hide (And.intro hg f1.size)
  clear MB hW f0W fW pb f1
  go_wp2_with fail
  rw [unhide HW]
  refine (unhide HMB).mono ?_
  clear HMB HW c0 c1 c2 c3 cz
  rintro e w2 ⟨rfl, f2⟩
  obtain ⟨f0W, pb⟩ := unhide HX
  have f02 := f0W.trans' f2 (fun _ x => x.elim)
  have pb2 := pb.still f2 (fun x => x)
  obtain ⟨W3, hW3⟩ : ∃ W3, w2.alloc (.cells #[.int .i64 p0, .int .u64 (kdN true), .int .i64 n, .int .i64 nx] 101) = W3 := ⟨_, rfl⟩
  have f3 : Still w2 W3 := hW3 ▸ (Fr.refl _ w2).alloc _
  have f03 := f02.trans' f3 (fun _ x => x.elim)
  have pb3 := pb2.still f3 (fun x => x)
  have pr3 : PR W3 w.heap.size (.slice (some ⟨w2.heap.size, 0, none⟩) 1 1) [⟨p0, true, n, nx⟩] := by
    have := heap_alloc_new w2 (.cells #[.int .i64 p0, .int .u64 (kdN true), .int .i64 n, .int .i64 nx] 101)
    rw [hW3] at this
    exact ⟨rfl, .inr ⟨w2.heap.size, 1, _, rfl, f02.size, this, Nat.le_refl _, by unfold maxLen; omega, rfl, rfl⟩⟩
  obtain ⟨c0, c1, c2, c3, cz⟩ := pb2.cells
  have ltg : g < w2.heap.size := World.block_lt_of_cell? _ _ c0
  have hgw : w.heap.size ≤ g := by have := unhide HG; omega
  have in0 : InP nu sz (says P A) n (u :: us) [⟨p0, true, n, nx⟩] true n u us := ⟨by rw [← hp0, ← hnx]; rfl, unhide HCH, by simp; omega, n4, by simp⟩
  have HW3 := hide hW3; have HX3 := hide (And.intro f03 (And.intro pb3 (And.intro pr3 in0)))
  clear hW3 f03 f3 f02 f2 pb2 pb3 pb pr3 f0W HX in0 HTK HCH
  go_wp2_with fail
  rw [unhide HW3]
  clear HW3 c0 c1 c2 c3 cz hg HG
  have HNX := hide (And.intro hp0 hnx)
  clear hp0 hnx
  generalize hg2 : w2.heap.size = g2 at *
  have g2ne : g ≠ g2 := by omega
  clear hg2
  go_loopw [8, 9] (fun v nv wr => ∃ (g8 cap : Nat) (done : List Prt) (fr : Bool) (m x : Nat) (a : Int) (rest : List Nat), v = .slice (some ⟨g8, 0, none⟩) done.length cap ∧ g8 ≠ g ∧ InP nu sz (says P A) n (u :: us) done fr m x rest ∧ PB wr g a fr m (8 * nxq nu rest : Nat) ∧ PR wr w.heap.size (.slice (some ⟨g8, 0, none⟩) done.length cap) done ∧ Still w wr) (fun v nv wr => match v with | .slice _ k _ => 40 - k | _ => 0)
  case atStart =>
    obtain ⟨f03, pb3, pr3, in0⟩ := unhide HX3
    have := (unhide HNX).2
    exact ⟨g2, 1, [⟨p0, true, n, nx⟩], true, n, u, p0, us, rfl, fun e => g2ne e.symm, in0, by rw [this]; exact pb3, pr3, f03⟩
  case round =>
    clear HX3 HNX g2ne ltg
    obtain ⟨g8, cap, done, fr, m, x, a, rest, rfl, hne, inp, pb, pr, fq⟩ := hrel
    generalize wr = wq at *
    clear wr
    obtain ⟨c0, c1, c2, c3, cz⟩ := pb.cells
    cases rest with
    | nil =>
      have e0 : ((8 * nxq nu [] : Nat) : Int) = 0 := rfl
      rw [e0] at c3
      have hlen := inp.len
      have heq := inp.eq
      have HX := hide (And.intro pr (And.intro fq (And.intro hlen heq)))
      clear pr fq pb inp hlen heq e0
      obtain ⟨dl, hdl⟩ : ∃ dl, done.length = dl := ⟨_, rfl⟩
      have HDL := hide hdl
      rw [hdl]
      clear hdl
      go_wp2
      go_ret
      obtain ⟨pr, fq, hlen, heq⟩ := unhide HX
      have hdl := unhide HDL
      simp at hlen
      refine ⟨g8, cap, ?_, ?_, fq⟩
      · show Ending.returned (.slice (some ⟨g8, 0, none⟩) dl cap) = _
        rw [← hlen, hdl]
      rw [heq]
      simp only [chP, List.append_nil]
      rw [← hlen]; exact pr
    | cons y rest =>
      obtain ⟨pa, tk, ch'⟩ := inp.ch.resolve_left (by simp)
      obtain ⟨q1, q2⟩ := nxq_ne (nu := nu) (u := y) (us := rest)
      have n4m := inp.n4
      have bm := bh_le fr m
      have BH := p_behind a fr m (8 * nxq nu (y :: rest) : Nat) (by omega) wq
      have ek : ((kdN false : Nat) : Int) = 1919247147 := by simp [kdN]
      have PA : ∀ w4, Still w w4 → Calls Tryz.prog 115 #[ptr sb, .int .i64 (fi nu + 8 * y : Nat), .int .u64 1919247147] w4 fun e w' => e = .returned (.agg #[.int .i64 (fi nu + 8 * y : Nat), .int .u64 (kdN false), .int .i64 (bhN fr m), .int .i64 (8 * nxq nu rest : Nat)]) ∧ Still w4 w' := fun w4 f4 => by
        have := r_partAt ((unhide HH).still f4) pa
        rw [ek] at this ⊢
        unfold ptV at this
        rw [ek] at this
        exact this
      have MB : ∀ w4, Still w w4 → Calls Tryz.prog 60 #[ptr hb, .agg #[.int .i64 (fi nu + 8 * y : Nat), .int .u64 (kdN false), .int .i64 (bhN fr m), .int .i64 (8 * nxq nu rest : Nat)]] w4 fun e w' => e = .returned (.tuple #[]) ∧ Still w4 w' := fun w4 f4 => by
        have := r_must ((unhide HH).still f4) (unhide HS) y false (bhN fr m) (8 * nxq nu rest : Nat) tk
        unfold ptV at this
        rw [show ((fi nu : Int) + y * 8) = ((fi nu + 8 * y : Nat) : Int) by omega] at this
        exact this
      rw [q2] at BH c3 pb
      have inp2 : InP nu sz (says P A) n (u :: us) (done ++ [⟨(fi nu + 8 * y : Nat), false, bhN fr m, (8 * nxq nu rest : Nat)⟩]) false (bhN fr m) y rest := by
        refine ⟨?_, ch', ?_, by omega, by simp⟩
        · rw [inp.eq]; simp [chP]
        · have := inp.len; simp at this ⊢; omega
      have hp1 : (((fi nu + 8 * y : Nat) : Int) != 0) = true := by have := fi_ge nu; have := aw_ge nu; simp; omega
      have hlen := inp.len
      have hdn : done.length ≤ 17 := by simp at hlen; omega
      unfold ptV at BH
      have HBH := hide BH; have HPA := @hide _ PA; have HMB := @hide _ MB; have HX := hide (And.intro pb (And.intro pr (And.intro fq inp2)))
      clear BH PA MB inp inp2 pb pr fq pa tk ch' ek q1 q2 hlen bm n4m
      generalize hP1 : ((fi nu + 8 * y : Nat) : Int) = p1 at *
      generalize hNX : ((8 * nxq nu rest : Nat) : Int) = nx1 at *
      generalize hBM : bhN fr m = m1 at *
      have HE := hide (And.intro hP1 (And.intro hNX hBM))
      clear hP1 hNX hBM
      obtain ⟨dl, hdl⟩ : ∃ dl, done.length = dl := ⟨_, rfl⟩
      have HDL := hide hdl
      rw [hdl] at hdn ⊢
      clear hdl
      go_wp2_with fail
      refine (unhide HBH).mono ?_
      clear HBH
      rintro e w3 ⟨rfl, f3⟩
      obtain ⟨pb, pr, fq, inp2⟩ := unhide HX
      have f03 := fq.trans' f3 (fun _ x => x.elim)
      have pb3 := pb.still f3 (fun x => x)
      obtain ⟨d0, d1, d2, d3, dz⟩ := pb3.cells
      have PA1 := unhide HPA w3 f03
      have HPA1 := hide PA1; have HX3 := hide (And.intro f03 (And.intro pb3 (And.intro (pr.still f3) inp2)))
      clear PA1 f03 pb3 f3 pb pr fq inp2 HX c0 c1 c2 c3 cz HPA
      go_wp2_with fail
      refine (unhide HPA1).mono ?_
      clear HPA1
      rintro e w4 ⟨rfl, f4⟩
      obtain ⟨f03, pb3, pr3, inp2⟩ := unhide HX3
      have f04 := f03.trans' f4 (fun _ x => x.elim)
      have pb4 := pb3.still f4 (fun x => x)
      obtain ⟨r0, r1, r2, r3, rz⟩ := pb4.cells
      obtain ⟨pb5, f5⟩ := pb4.set p1 false m1 nx1
      have pr5 := (pr3.still f4).kept f5 (fun k hk e => by have e : k = g := e; simp [Value.ownBlock] at hk; omega)
      obtain ⟨W5, hW5⟩ : ∃ W5, stP w4 g p1 (kdN false) m1 nx1 = W5 := ⟨_, rfl⟩
      rw [hW5] at pb5 f5 pr5
      have f05 := f04.trans' f5 (fun k hk => .inr (by omega))
      obtain ⟨s0, s1, s2, s3, sz'⟩ := pb5.cells
      have MB1 := unhide HMB W5 f05
      have HMB1 := hide MB1; have HW5 := hide hW5; have HX5 := hide (And.intro f05 (And.intro pb5 (And.intro pr5 inp2)))
      clear MB1 hW5 f05 f5 pb5 pr5 f04 f4 pb4 pb3 pr3 f03 HX3 d0 d1 d2 d3 dz HMB inp2
      go_upto_region 7 with fail
      have h5 := unhide HW5
      unfold stP at h5
      rw [h5]
      clear h5
      clear r0 r1 r2 r3 rz HW5
      go_wp2_with fail
      refine (unhide HMB1).mono ?_
      clear HMB1
      rintro e w6 ⟨rfl, f6⟩
      obtain ⟨f05, pb5, pr5, inp2⟩ := unhide HX5
      have f06 := f05.trans' f6 (fun _ x => x.elim)
      have pb6 := pb5.still f6 (fun x => x)
      have pr6 := pr5.still f6
      obtain ⟨v7, w7, hap, pr7, fr7, loc7⟩ := run_prt w6 w.heap.size 95 _ done pr6 ⟨p1, false, m1, nx1⟩ (by have := unhide HDL; omega) f06.size
      have hdl := unhide HDL
      obtain ⟨g7, cap7, ev7⟩ : ∃ g7 cap7, v7 = .slice (some ⟨g7, 0, none⟩) (dl + 1) cap7 := by
        rcases pr7.form with ⟨_, e⟩ | ⟨g7, cap7, e, _⟩
        · simp at e
        · exact ⟨g7, cap7, by rw [e, ← hdl]; simp⟩
      subst ev7
      have f07 := f06.trans' fr7 (fun k hk => .inr (World.ownsRow.lt pr6 k hk).1)
      have pb7 := pb6.still fr7 (fun e => by simp [Value.ownBlock] at e; omega)
      obtain ⟨t0, t1, t2, t3, tz⟩ := pb6.cells
      have hg7 : g7 ≠ g := by
        rcases loc7 with e | e
        · simp [Value.ownBlock] at e; omega
        · simp [Value.ownBlock] at e; have := World.block_lt_of_cell? _ _ t0; simp at this; omega
      rw [hdl] at hap
      have HAP := hide hap; have HX7 := hide (And.intro f07 (And.intro pb7 (And.intro pr7 inp2)))
      clear hap f07 pb7 pr7 fr7 loc7 f06 pb6 pr6 f05 pb5 pr5 inp2 f6 HX5 s0 s1 s2 s3 sz' hdl
      go_wp2_with (first | (at_builtin; refine wpList_append_run rfl (.tmp 35) (.tmp 37) 95 rfl _ _ rfl rfl (.slice (some ⟨g7, 0, none⟩) (dl + 1) cap7) w7 (unhide HAP) ?_) | fail)
      obtain ⟨f07, pb7, pr7, inp2⟩ := unhide HX7
      have hdl := unhide HDL
      obtain ⟨e1, e2, e3⟩ := unhide HE
      refine ⟨⟨g7, cap7, done ++ [⟨p1, false, m1, nx1⟩], false, m1, y, p1, rest, by rw [List.length_append, hdl]; rfl, hg7, inp2, by rw [e2]; exact pb7, by rw [List.length_append, hdl]; exact pr7, f07⟩, ?_⟩
      have := hdn
      simp
      omega
end
end

section
def Data (nu : Nat) (f : Nat → Int) (wd : Nat → Nat) : Bool → Nat → Nat → List Nat → Prop
  | _, _, _, [] => True
  | fr, o, n, u :: us => (∀ i, i < szN fr n - ahd fr → f (fi nu + 8 * u + ahd fr + i) = ((wd (o + i) : Nat) : Int)) ∧ Data nu f wd false (o + (szN fr n - ahd fr)) (bhN fr n) us

structure RecS (nu sz : Nat) (f : Nat → Int) (u : Nat) (us : List Nat) (n k : Nat) (wd : Nat → Nat) : Prop where
  ch : Chain nu sz f true n (u :: us)
  len : us.length ≤ 16
  hk : f (fi nu + 8 * u + 1) = (k : Nat)
  k1 : 1 ≤ k
  k2 : k < 1000000
  da : Data nu f wd true 0 n (u :: us)
  nd : (u :: us).Nodup

theorem field_n (a d : Int) (k n : Int) (w : World) : (Instr.field 101 (.agg #[.int .i64 a, .int .u64 k, .int .i64 n, .int .i64 d]) 2).run Tryz.prog w = .ok (.int .i64 n) w := by kernel_rfl

section
variable {nu sz : Nat} {w w' w0 : World} {hb sb b : Nat} {T : Tay} {A : Ab} {P : List (Int × Int)} {u n k : Nat} {us : List Nat} {wd : Nat → Nat}

theorem RecS.hi (r : RecS nu sz (says P A) u us n k wd) : fi nu + 8 * u + 2 ≤ sz := by
  have := r.ch.1.hi
  have hs2 : 2 ≤ szN true n := by unfold szN ahd; simp; omega
  omega
theorem RecS.begins (h : Hp nu sz w hb sb b T A P) (r : RecS nu sz (says P A) u us n k wd) : Calls Tryz.prog 61 #[ptr sb, .int .i64 (fi nu + 8 * u : Nat)] w fun e w' => e = .returned (ptV (fi nu + 8 * u : Nat) true n (8 * nxq nu us : Nat)) ∧ Still w w' :=
  r_beginning h r.ch.1 r.hk r.k1 (by have := r.k2; omega)

set_option maxRecDepth 20000 in
set_option maxHeartbeats 1000000 in
theorem r_len (h : Hp nu sz w hb sb b T A P) (r : RecS nu sz (says P A) u us n k wd) :
    Calls Tryz.prog 48 #[ptr sb, .int .i64 (fi nu + 8 * u : Nat)] w fun e w' => e = .returned (.int .i64 n) ∧ Still w w' := by
  have HB := hide (r.begins h)
  unfold ptV at HB
  clear h r
  generalize ((fi nu + 8 * u : Nat) : Int) = p at *
  generalize ((8 * nxq nu us : Nat) : Int) = nx at *
  have fl := field_n
  go_enter Tryz.func48, Tryz.ntmps48
  go_wp2_with fail
  refine (unhide HB).mono ?_
  clear HB
  rintro e w1 ⟨rfl, f1⟩
  have HF := hide f1
  clear f1
  go_wp2
  go_ret
  exact ⟨rfl, unhide HF⟩

set_option maxRecDepth 20000 in
set_option maxHeartbeats 1000000 in
theorem r_held (h : Hp nu sz w hb sb b T A P) (r : RecS nu sz (says P A) u us n k wd) :
    Calls Tryz.prog 49 #[ptr sb, .int .i64 (fi nu + 8 * u : Nat)] w fun e w' => e = .returned (.int .i64 k) ∧ Still w w' := by
  have HB := hide (r.begins h)
  unfold ptV at HB
  have hi := r.hi
  obtain ⟨g1, g2, g3, g4, g5, g6⟩ := h.hp.geo.b
  have LD : ∀ w1, Still w w1 → Calls Tryz.prog 62 #[ptr sb, .int .i64 (((fi nu + 8 * u : Nat) : Int) + 1)] w1 fun e w' => e = .returned (u64 (k : Nat)) ∧ w' = w1 := fun w1 f1 => by
    have := (h.still f1).load (fi nu + 8 * u + 1) (by omega)
    rw [r.hk] at this
    exact this
  have k2 := r.k2
  have hkw := small_w64 (x := (k : Int)) (by omega)
  have HLD := @hide _ LD
  have hp4 : fi nu + 8 * u ≤ 40000 := by omega
  clear h r LD g1 g2 g3 g4 g5 g6 hi
  generalize fi nu + 8 * u = p at *
  generalize ((8 * nxq nu us : Nat) : Int) = nx at *
  go_enter Tryz.func49, Tryz.ntmps49
  go_wp2_with fail
  refine (unhide HB).mono ?_
  clear HB
  rintro e w1 ⟨rfl, f1⟩
  have LD1 := hide (unhide HLD w1 f1)
  have HF := hide f1
  clear f1 HLD
  go_wp2_with (go_at_call 62; refine (unhide LD1).mono ?_; rintro e w' ⟨rfl, hh⟩; replace hh := hh.symm; subst hh)
  go_ret
  exact ⟨by simp, unhide HF⟩

set_option maxRecDepth 20000 in
set_option maxHeartbeats 1000000 in
theorem r_hold (h : Hp nu sz w hb sb b T A P) (hm : P.length < 6144) (r : RecS nu sz (says P A) u us n k wd) :
    Calls Tryz.prog 15 #[ptr sb, .int .i64 (fi nu + 8 * u : Nat)] w fun e w' => e = .returned (.tuple #[]) ∧ To sz w sb b T A w' (upd (says P A) (fi nu + 8 * u + 1) ((k + 1 : Nat) : Int)) (P.length + 1) := by
  have HB := hide (r.begins h)
  unfold ptV at HB
  have hi := r.hi
  obtain ⟨g1, g2, g3, g4, g5, g6⟩ := h.hp.geo.b
  have LD : ∀ w1, Still w w1 → Calls Tryz.prog 62 #[ptr sb, .int .i64 (((fi nu + 8 * u : Nat) : Int) + 1)] w1 fun e w' => e = .returned (u64 (k : Nat)) ∧ w' = w1 := fun w1 f1 => by
    have := (h.still f1).load (fi nu + 8 * u + 1) (by omega)
    rw [r.hk] at this
    exact this
  have PU : ∀ w1, Still w w1 → Calls Tryz.prog 56 #[ptr sb, .int .i64 (((fi nu + 8 * u : Nat) : Int) + 1), u64 ((k : Int) + 1)] w1 fun e w' => e = .returned (.tuple #[]) ∧ To sz w1 sb b T A w' (upd (says P A) (fi nu + 8 * u + 1) ((k : Int) + 1)) (P.length + 1) := fun w1 f1 =>
    (h.still f1).put hm (fi nu + 8 * u + 1) (by omega) ((k : Int) + 1)
  have k2 := r.k2
  have hkw : IntKind.u64.wrap ((k : Int) + 1) = (k : Int) + 1 := by rw [IntKind.wrap_u64]; omega
  have HLD := @hide _ LD; have HPU := @hide _ PU
  have hp4 : fi nu + 8 * u ≤ 40000 := by omega
  rw [show ((k + 1 : Nat) : Int) = (k : Int) + 1 by omega]
  clear h r LD PU g1 g2 g3 g4 g5 g6 hi hm
  generalize fi nu + 8 * u = p at *
  generalize ((8 * nxq nu us : Nat) : Int) = nx at *
  go_enter Tryz.func15, Tryz.ntmps15
  go_wp2_with fail
  refine (unhide HB).mono ?_
  clear HB
  rintro e w1 ⟨rfl, f1⟩
  have LD1 := hide (unhide HLD w1 f1); have PU1 := hide (unhide HPU w1 f1)
  have HF := hide f1
  clear f1 HLD HPU
  go_wp2_with (first | (go_at_call 62; refine (unhide LD1).mono ?_; rintro e w' ⟨rfl, hh⟩; replace hh := hh.symm; subst hh) | fail)
  refine (unhide PU1).mono ?_
  clear PU1 LD1
  rintro e w2 ⟨rfl, t⟩
  have HT := hide (t.after (unhide HF))
  clear t
  go_wp2
  go_end0
  exact ⟨rfl, unhide HT⟩
end
end

section
theorem chn_len (fr : Bool) (n f : Nat) : (chn fr n f).length ≤ f := by
  induction f generalizing fr n with
  | zero => simp [chn]
  | succ f ih =>
    simp only [chn, List.length_cons]
    split
    · simp
    · have := ih false (bhN fr n); omega
theorem chn_one (fr : Bool) (n f : Nat) : 1 ≤ (chn fr n (f + 1)).length := by simp [chn]
theorem chn_le (fr : Bool) (n f : Nat) : ∀ p ∈ chn fr n f, p.n ≤ n := by
  induction f generalizing fr n with
  | zero => simp [chn]
  | succ f ih =>
    intro p hp
    simp only [chn, List.mem_cons] at hp
    rcases hp with rfl | hp
    · exact Nat.le_refl _
    · split at hp
      · simp at hp
      · have := ih false (bhN fr n) p hp; have := bh_le fr n; omega

theorem plc_cons (nu : Nat) (p : Prt) (l : List Prt) (u : Nat) (us : List Nat) : plc nu (p :: l) (u :: us) = { p with at_ := fi nu + u * 8 } :: plc nu l us := by
  simp [plc, List.mapIdx_cons]
theorem nxs_cons (p q : Prt) (l : List Prt) (m : Nat) : nxs (p :: q :: l) (m + 1) = { p with nx := q.at_ } :: nxs (q :: l) m := by
  simp only [nxs, List.mapIdx_cons, List.getElem?_cons_succ, List.getElem?_cons_zero, Nat.zero_lt_succ, if_true, Option.map_some, Option.getD_some, Nat.add_lt_add_iff_right]

def Enough : Bool → Nat → List Nat → Prop
  | _, _, [] => False
  | fr, n, _ :: us => (us = [] ∧ bhN fr n = 0) ∨ (bhN fr n ≠ 0 ∧ Enough false (bhN fr n) us)

theorem ends_of (fr : Bool) (n f : Nat) (us : List Nat) (hf : bhN fr n ≤ 248 * f) (h : us.length = (chn fr n (f + 1)).length) : Enough fr n us := by
  induction f generalizing fr n us with
  | zero =>
    have e : bhN fr n = 0 := by omega
    simp only [chn, e, if_true, List.length_cons, List.length_nil] at h
    match us, h with
    | [u], _ => exact .inl ⟨rfl, e⟩
  | succ f ih =>
    by_cases e : bhN fr n = 0
    · rw [chn, if_pos e] at h
      match us, h with
      | [u], _ => exact .inl ⟨rfl, e⟩
    · rw [chn, if_neg e] at h
      match us, h with
      | u :: us, h =>
        refine .inr ⟨e, ih false (bhN fr n) us ?_ (by simpa using h)⟩
        unfold bhN ahd at *
        simp only [Bool.false_eq_true, if_false] at *
        omega

theorem placed_chain (nu : Nat) (fr : Bool) (n f : Nat) (us : List Nat) (hf : bhN fr n ≤ 248 * f) (h : us.length = (chn fr n (f + 1)).length) : nxs (plc nu (chn fr n (f + 1)) us) (us.length - 1) = chP nu fr n us := by
  induction f generalizing fr n us with
  | zero =>
    have e : bhN fr n = 0 := by omega
    simp only [chn, e, if_true, List.length_cons, List.length_nil] at h ⊢
    match us, h with
    | [u], _ =>
      rw [plc_cons]
      simp [plc, nxs, chP, nxq]
      omega
  | succ f ih =>
    by_cases e : bhN fr n = 0
    · rw [chn, if_pos e] at h ⊢
      match us, h with
      | [u], _ =>
        rw [plc_cons]
        simp [plc, nxs, chP, nxq]
        omega
    · rw [chn, if_neg e] at h ⊢
      match us, h with
      | u :: us, h =>
        have hl : us.length = (chn false (bhN fr n) (f + 1)).length := by simpa using h
        have h1 := chn_one false (bhN fr n) f
        have hb : bhN false (bhN fr n) ≤ 248 * f := by
          have e2 : bhN false (bhN fr n) = bhN fr n - 248 := rfl
          omega
        have ihh := ih false (bhN fr n) us hb hl
        clear ih hf hb
        obtain ⟨c, cs, hc⟩ : ∃ c cs, chn false (bhN fr n) (f + 1) = c :: cs := ⟨_, _, by rw [chn]⟩
        rw [hc] at hl h1
        cases us with
        | nil => simp at hl
        | cons v vs =>
          rw [hc] at ihh ⊢
          rw [plc_cons, plc_cons]
          rw [plc_cons] at ihh
          simp only [List.length_cons, Nat.add_sub_cancel] at ihh ⊢
          rw [nxs_cons, ihh]
          have hx := nxq_ne (nu := nu) (u := v) (us := vs)
          show _ = (⟨(fi nu + 8 * u : Nat), fr, n, (8 * nxq nu (v :: vs) : Nat)⟩ : Prt) :: chP nu false _ (v :: vs)
          rw [List.cons.injEq]
          refine ⟨?_, rfl⟩
          rw [Prt.mk.injEq]
          refine ⟨?_, rfl, rfl, ?_⟩
          · show (fi nu : Int) + u * 8 = ((fi nu + 8 * u : Nat) : Int)
            omega
          show (fi nu : Int) + v * 8 = ((8 * nxq nu (v :: vs) : Nat) : Int)
          omega
end

section
def Wrtn (nu : Nat) (g : Nat → Int) (wd : Nat → Nat) : Bool → Nat → Nat → List Nat → Prop
  | _, _, _, [] => True
  | fr, n, o, u :: us => g (fi nu + 8 * u) = ((wrN fr n (nxq nu us) : Nat) : Int) ∧ (∀ i, i < szN fr n - ahd fr → g (fi nu + 8 * u + ahd fr + i) = ((wd (o + i) : Nat) : Int)) ∧ Wrtn nu g wd false (bhN fr n) (o + (szN fr n - ahd fr)) us
def Asks (nu : Nat) (g : Nat → Int) : Bool → Nat → List Nat → Prop
  | _, _, [] => True
  | fr, n, u :: us => ask nu g u = 32 ∧ Asks nu g false (bhN fr n) us

theorem wrtn_data {nu : Nat} {g : Nat → Int} {wd : Nat → Nat} : ∀ {fr : Bool} {n o : Nat} {us : List Nat}, Wrtn nu g wd fr n o us → Data nu g wd fr o n us
  | _, _, _, [], _ => trivial
  | _, _, _, _ :: _, h => ⟨h.2.1, wrtn_data h.2.2⟩

theorem asks_of {nu : Nat} {g : Nat → Int} (fr : Bool) (n f : Nat) (us : List Nat) (h : us.length = (chn fr n f).length) (ha : ∀ (k u x : Nat), us[k]? = some u → ((chn fr n f).map fun _ => 32)[k]? = some x → ask nu g u = x) : Asks nu g fr n us := by
  induction f generalizing fr n us with
  | zero =>
    cases us with
    | nil => trivial
    | cons u us => simp [chn] at h
  | succ f ih =>
    cases us with
    | nil => trivial
    | cons u us =>
      refine ⟨ha 0 u 32 rfl (by simp [chn]), ?_⟩
      by_cases e : bhN fr n = 0
      · rw [chn, if_pos e] at h
        cases us with
        | nil => trivial
        | cons v vs => simp at h
      · rw [chn, if_neg e] at h
        refine ih false (bhN fr n) us (by simpa using h) fun k v x h1 h2 => ha (k + 1) v x (by simpa using h1) ?_
        rw [chn, if_neg e]
        simpa using h2

theorem chain_of {nu sz : Nat} {g : Nat → Int} {wd : Nat → Nat} (geo : Geo nu sz) (s : HpS nu g) : ∀ {fr : Bool} {n o : Nat} {us : List Nat}, n ≤ 4096 → Enough fr n us → Asks nu g fr n us → Wrtn nu g wd fr n o us → Chain nu sz g fr n us
  | _, _, _, [], _, e, _, _ => e.elim
  | fr, n, o, u :: us, n4, e, a, w => by
    obtain ⟨b1, b2, b3, b4, b5, b6⟩ := geo.b
    have hs := sz_b fr n
    have hu : ask nu g u ≠ 0 := by rw [a.1]; omega
    obtain ⟨i1, i2, i3, i4⟩ := s.inv.asks u hu
    have hl := lv_holds (ask nu g u) i2
    rw [a.1] at hl i4
    have f8 := fi_8 nu
    have hq : nxq nu us < 65536 := by
      cases us with
      | nil => simp [nxq]
      | cons v vs =>
        have hv : ask nu g v ≠ 0 := by
          rw [a.2.1]; omega
        have := (s.inv.asks v hv).1
        have := (nxq_ne (nu := nu) (u := v) (us := vs)).2
        omega
    have hnx : nxq nu us = 0 ↔ bhN fr n = 0 := by
      rcases e with ⟨rfl, e⟩ | ⟨e, e2⟩
      · simp [nxq, e]
      · cases us with
        | nil => exact e2.elim
        | cons v vs =>
          have := (nxq_ne (nu := nu) (u := v) (us := vs)).1
          exact ⟨fun x => (this x).elim, fun x => (e x).elim⟩
    refine ⟨⟨w.1, n4, hq, by omega, by omega, by omega, hnx⟩, ⟨a.1, i1⟩, ?_⟩
    rcases e with ⟨rfl, e⟩ | ⟨e, e2⟩
    · exact .inl rfl
    · exact .inr (chain_of geo s (by have := bh_le fr n; omega) e2 a.2 w.2.2)

theorem rec_of {nu sz n u : Nat} {us : List Nat} {g : Nat → Int} {wd : Nat → Nat} (geo : Geo nu sz) (s : HpS nu g) (n4 : n ≤ 4096) (e : Enough true n (u :: us)) (a : Asks nu g true n (u :: us)) (w : Wrtn nu g wd true n 0 (u :: us)) (hk : g (fi nu + 8 * u + 1) = 1) (hl : us.length ≤ 16) (nd : (u :: us).Nodup) : RecS nu sz g u us n 1 wd :=
  ⟨chain_of geo s n4 e a w, hl, hk, Nat.le_refl _, by omega, wrtn_data w, nd⟩
end

section
structure MkI (nu : Nat) (f2 : Nat → Int) (n : Nat) (wd : Nat → Nat) (vs : List Nat) (g : Nat → Int) (m : Nat) (fr : Bool) (n' o : Nat) (rest : List Nat) : Prop where
  sp : vs.drop m = rest
  pc : (chP nu true n vs).drop m = chP nu fr n' rest
  en : rest = [] ∨ Enough fr n' rest
  n4 : n' ≤ 4096
  ks : ∀ i, (∀ v ∈ vs.take m, i < fi nu + 8 * v ∨ fi nu + 8 * v + ask nu f2 v ≤ i) → g i = f2 i
  ct : ∀ g' : Nat → Int, (∀ v ∈ vs.take m, ∀ i, i < ask nu f2 v → g' (fi nu + 8 * v + i) = g (fi nu + 8 * v + i)) → Wrtn nu g' wd fr n' o rest → Wrtn nu g' wd true n 0 vs

theorem MkI.start {nu : Nat} {f2 : Nat → Int} {n : Nat} {wd : Nat → Nat} {vs : List Nat} (e : Enough true n vs) (n4 : n ≤ 4096) : MkI nu f2 n wd vs f2 0 true n 0 vs :=
  ⟨rfl, rfl, .inr e, n4, fun _ _ => rfl, fun _ _ h => h⟩

theorem MkI.step {nu : Nat} {f2 g g2 : Nat → Int} {n m n' o x : Nat} {fr : Bool} {wd : Nat → Nat} {vs rest : List Nat} (h : MkI nu f2 n wd vs g m fr n' o (x :: rest)) (nd : vs.Nodup)
    (ap : ∀ v ∈ vs, v ≠ x → 8 * v + ask nu f2 v ≤ 8 * x ∨ 8 * x + ask nu f2 x ≤ 8 * v) (hx : ask nu f2 x = 32)
    (h1 : g2 (fi nu + 8 * x) = ((wrN fr n' (nxq nu rest) : Nat) : Int)) (h2 : ∀ i, i < szN fr n' - ahd fr → g2 (fi nu + 8 * x + ahd fr + i) = ((wd (o + i) : Nat) : Int)) (h3 : ∀ i, (i < fi nu + 8 * x ∨ fi nu + 8 * x + szN fr n' ≤ i) → g2 i = g i) :
    MkI nu f2 n wd vs g2 (m + 1) false (bhN fr n') (o + (szN fr n' - ahd fr)) rest := by
  have hm : vs[m]? = some x := by
    have : (vs.drop m)[0]? = some x := by rw [h.sp]; rfl
    rwa [List.getElem?_drop] at this
  have ht : vs.take (m + 1) = vs.take m ++ [x] := by rw [List.take_add_one, hm]; rfl
  have hne : ∀ v ∈ vs.take m, v ≠ x := fun v hv e => by
    subst e
    obtain ⟨j, hj⟩ := List.getElem?_of_mem hv
    have hjm : j < m := by
      have := (List.getElem?_eq_some_iff.1 hj).1
      simp at this; omega
    rw [List.getElem?_take, if_pos hjm] at hj
    have := (List.getElem?_inj (List.getElem?_eq_some_iff.1 hj).1 nd).1 (hj.trans hm.symm)
    omega
  have hs := sz_b fr n'
  refine ⟨?_, ?_, ?_, ?_, ?_, ?_⟩
  · rw [← List.drop_drop, h.sp]; rfl
  · rw [← List.drop_drop, h.pc]; rfl
  · rcases h.en with e | e
    · cases e
    · rcases e with ⟨e, _⟩ | ⟨_, e⟩
      · exact .inl e
      · exact .inr e
  · have := bh_le fr n'; have := h.n4; omega
  · intro i hi
    rw [ht] at hi
    rw [h3 i (by have := hi x (by simp); rw [hx] at this; omega)]
    exact h.ks i fun v hv => hi v (by simp [hv])
  · intro g' hg hw
    rw [ht] at hg
    refine h.ct g' (fun v hv i hi => ?_) ⟨?_, fun i hi => ?_, hw⟩
    · rw [hg v (by simp [hv]) i hi]
      refine h3 _ ?_
      have := ap v (List.mem_of_mem_take hv) (hne v hv)
      rw [hx] at this
      omega
    · have := hg x (by simp) 0 (by rw [hx]; omega)
      rw [Nat.add_zero] at this
      rw [this, h1]
    · have := hg x (by simp) (ahd fr + i) (by rw [hx]; omega)
      rw [← Nat.add_assoc] at this
      rw [this]; exact h2 i hi

theorem Wrtn.held {nu : Nat} {g : Nat → Int} {wd : Nat → Nat} {j : Nat} {v : Int} : ∀ {fr : Bool} {n o : Nat} {us : List Nat}, Wrtn nu g wd fr n o us → Asks nu g fr n us → (∀ u ∈ us, j < fi nu + 8 * u ∨ fi nu + 8 * u + ask nu g u ≤ j) → Wrtn nu (upd g j v) wd fr n o us
  | _, _, _, [], _, _, _ => trivial
  | fr, n, o, u :: us, h, a, hj => by
    have hs := sz_b fr n
    have hu := hj u (by simp)
    rw [a.1] at hu
    refine ⟨?_, fun i hi => ?_, Wrtn.held h.2.2 a.2 (fun x hx => hj x (by simp [hx]))⟩
    · rw [upd_other _ _ (by omega)]; exact h.1
    · rw [upd_other _ _ (by omega)]; exact h.2.1 i hi
theorem Wrtn.first {nu : Nat} {g : Nat → Int} {wd : Nat → Nat} {v : Int} {n o u : Nat} {us : List Nat} (h : Wrtn nu g wd true n o (u :: us)) (a : Asks nu g true n (u :: us)) (hj : ∀ x ∈ us, fi nu + 8 * u + 1 < fi nu + 8 * x ∨ fi nu + 8 * x + ask nu g x ≤ fi nu + 8 * u + 1) : Wrtn nu (upd g (fi nu + 8 * u + 1) v) wd true n o (u :: us) := by
  refine ⟨?_, fun i hi => ?_, Wrtn.held h.2.2 a.2 hj⟩
  · rw [upd_other _ _ (by omega)]; exact h.1
  · rw [upd_other _ _ (by unfold ahd; simp; omega)]; exact h.2.1 i hi
end

section
def strB (f : Nat → Nat) (n : Nat) : ByteArray := strOfNums ((rowL f n).map fun (x : Nat) => (x : Int))
theorem strB_size (f : Nat → Nat) (n : Nat) : (strB f n).size = n := by rw [strB, strOfNums_size]; simp [rowL]
theorem conv_str (w : World) (a : Option Addr) (len cap : Nat) (f : Nat → Nat) (hN : Nats .u8 w a len f) :
    (convert 30 9 (.slice a len cap)).run Tryz.prog w = .ok (.string (strB f len)) w := by
  by_cases h : len = 0
  · subst h
    rw [run_convert_bytes_string w 30 9 5 _ 0 cap Tryz.underlying30 Tryz.underlying5 Tryz.underlying9]
    cases a <;> simp [Conv.bytesToString, loadCells, strB, rowL, strOfNums]
    all_goals rfl
  · obtain ⟨xb, xo, rfl, _⟩ := hN 0 (by omega)
    refine run_convert_bytes_arg (P := Tryz.prog) w 30 5 Tryz.underlying30 Tryz.underlying5 xb xo len cap _ (by simp [rowL]) ?_ 9 Tryz.underlying9
    intro i hi
    obtain ⟨_, _, e, c⟩ := hN i hi
    cases e
    rw [c]
    simp [rowL, hi]
theorem over_false (v : Nat → Nat) (n : Nat) (hv : v (need n - 1) < 18446744073709551616) (h : ∀ i, n ≤ i → i < 8 * (need n - 1) → byteF v i = 0) : over v (need n) n = false := by
  unfold over
  by_cases h8 : 0 < n % 8
  · have hd : need n - 1 = 1 + n / 8 := by unfold need; omega
    rw [decide_eq_true h8, Bool.true_and, decide_eq_false]
    rw [hd] at hv ⊢
    intro hp
    have : v (1 + n / 8) / 2 ^ (8 * (n % 8)) = 0 := by
      apply Nat.eq_of_testBit_eq
      intro m
      rw [Nat.testBit_div_two_pow, Nat.zero_testBit]
      by_cases hm : m + 8 * (n % 8) < 64
      · have hb := h (8 * (n / 8) + (m + 8 * (n % 8)) / 8) (by omega) (by rw [hd]; omega)
        unfold byteF at hb
        rw [show 1 + (8 * (n / 8) + (m + 8 * (n % 8)) / 8) / 8 = 1 + n / 8 by omega, show (8 * (n / 8) + (m + 8 * (n % 8)) / 8) % 8 = (m + 8 * (n % 8)) / 8 by omega] at hb
        have h2 : (v (1 + n / 8) / 2 ^ (8 * ((m + 8 * (n % 8)) / 8)) % 2 ^ 8).testBit ((m + 8 * (n % 8)) % 8) = false := by
          rw [show (2 : Nat) ^ 8 = 256 from rfl, hb]; simp
        rw [Nat.testBit_mod_two_pow, Nat.testBit_div_two_pow, decide_eq_true (by omega), Bool.true_and] at h2
        rw [← h2]; congr 1; omega
      · exact Nat.testBit_lt_two_pow (Nat.lt_of_lt_of_le hv (Nat.pow_le_pow_right (n := 2) (by decide) (show 64 ≤ m + 8 * (n % 8) by omega)))
    omega
  · rw [decide_eq_false h8]; rfl
theorem byte_of (b : Nat → Nat) (n k : Nat) (hk : k < n) (hb : ∀ i, i < n → b i < 256) : wordN b n (k / 8) / 2 ^ (8 * (k % 8)) % 256 = b k := by
  apply Nat.eq_of_testBit_eq
  intro m
  rw [show (256 : Nat) = 2 ^ 8 from rfl, Nat.testBit_mod_two_pow, Nat.testBit_div_two_pow, word_bit _ _ _ _ hb]
  by_cases h : m < 8
  · rw [show 8 * (k / 8) + (m + 8 * (k % 8)) / 8 = k by omega, show (m + 8 * (k % 8)) % 8 = m by omega, decide_eq_true h, decide_eq_true (show m + 8 * (k % 8) < 64 ∧ k < n by omega)]
    simp
  · rw [Nat.testBit_lt_two_pow (Nat.lt_of_lt_of_le (hb k hk) (Nat.pow_le_pow_right (n := 2) (by decide) (show 8 ≤ m by omega)))]
    simp [h]
theorem pack_back (b : Nat → Nat) (n : Nat) (hb : ∀ i, i < n → b i < 256) (hn : n ≤ 60000) : unE (packF b n) (need n) = 0 ∧ packF b n 0 = n ∧ ∀ i, i < n → byteF (packF b n) i = b i := by
  have h0 : packF b n 0 = n := rfl
  have hB : ∀ i, i < n → byteF (packF b n) i = b i := by
    intro i hi
    unfold byteF
    rw [show packF b n (1 + i / 8) = wordN b n (i / 8) by unfold packF; rw [if_neg (by omega), show 1 + i / 8 - 1 = i / 8 by omega]]
    exact byte_of b n i hi hb
  refine ⟨?_, h0, hB⟩
  have ho : over (packF b n) (need n) n = false := by
    refine over_false _ n ?_ ?_
    · unfold packF; split
      · omega
      · exact word_lt _ _ _ hb
    · intro i h1 h2
      unfold byteF
      rw [show packF b n (1 + i / 8) = wordN b n (i / 8) by unfold packF; rw [if_neg (by omega), show 1 + i / 8 - 1 = i / 8 by omega]]
      apply Nat.eq_of_testBit_eq
      intro m
      rw [show (256 : Nat) = 2 ^ 8 from rfl, Nat.testBit_mod_two_pow, Nat.testBit_div_two_pow, word_bit _ _ _ _ hb, Nat.zero_testBit]
      by_cases hm : m < 8
      · rw [decide_eq_false (show ¬ (m + 8 * (i % 8) < 64 ∧ 8 * (i / 8) + (m + 8 * (i % 8)) / 8 < n) by omega)]; simp
      · simp [hm]
  unfold unE
  rw [h0, if_neg (by unfold need; omega), if_neg (by omega), if_neg (by omega), if_neg]
  rintro (h | h)
  · omega
  · rw [ho] at h; cases h
theorem pack_lt (b : Nat → Nat) (n j : Nat) (hb : ∀ i, i < n → b i < 256) (hn : n ≤ 60000) : packF b n j < 18446744073709551616 := by
  unfold packF; split
  · omega
  · exact word_lt _ _ _ hb
end

section
def cutW (a : Option Addr) (cap l : Nat) : Option Addr := if cap = l then a else a.map (·.add (l * 1))
theorem size_u64 (w : World) : (sizeOf 50).run Tryz.prog w = .ok 1 w := by
  obtain ⟨i, hi, hzz⟩ := Option.map_eq_some_iff.1 infoU
  simp only [Prod.mk.injEq] at hzz
  simp [sizeOf, typeInfo, hi, hzz.2.1]
theorem slice_fromW (a : Option Addr) (len cap l : Nat) (w : World) (hl : l ≤ len) : (Instr.slice 98 (.slice a len cap) (some (.int .i64 (l : Nat))) none none).run Tryz.prog w = .ok (.slice (cutW a cap l) (len - l) (cap - l)) w := by
  have he : Tryz.prog.elem 98 = 50 := by kernel_rfl
  rw [run_slice_l (P := Tryz.prog) w 98 a len cap (by rw [he]; exact Tryz.underlying98) .i64 (l : Nat) (by omega) (by omega), he, size_u64]
  simp [Result.andThen, sliced, cutW]
theorem slice_toW (a : Option Addr) (len cap l : Nat) (w : World) (hl : l ≤ cap) : (Instr.slice 98 (.slice a len cap) none (some (.int .i64 (l : Nat))) none).run Tryz.prog w = .ok (.slice a l cap) w := by
  have he : Tryz.prog.elem 98 = 50 := by kernel_rfl
  have ha : a.map (fun x : Addr => x.add 0) = a := by
    cases a with
    | none => rfl
    | some x => obtain ⟨b, o, s⟩ := x; simp [Addr.add]
  rw [run_slice_h (P := Tryz.prog) w 98 a len cap (by rw [he]; exact Tryz.underlying98) .i64 (l : Nat) (by omega) (by omega), he, size_u64]
  simp [Result.andThen, sliced, ha]
theorem cut_natsW {k : IntKind} {a : Option Addr} {len cap : Nat} (l : Nat) {w : World} (hc : len ≤ cap) {f : Nat → Nat} (hN : Nats k w a len f) : Nats k w (cutW a cap l) (len - l) (fun t => f (l + t)) := by
  intro i hi
  obtain ⟨xb, xo, rfl, c⟩ := hN (l + i) (by omega)
  unfold cutW
  rw [if_neg (by omega)]
  have hadd : (⟨xb, xo, none⟩ : Addr).add (l * 1) = ⟨xb, xo + l, none⟩ := by unfold Addr.add; split <;> simp_all
  exact ⟨xb, xo + l, by simp only [Option.map_some, hadd], by rw [Nat.add_assoc]; exact c⟩
theorem cutW_block {a : Option Addr} {cap l : Nat} {x : Addr} (h : cutW a cap l = some x) : ∃ y, a = some y ∧ x.block = y.block := by
  unfold cutW at h
  split at h
  · exact ⟨x, h, rfl⟩
  · cases a with
    | none => simp at h
    | some y =>
      simp only [Option.map_some, Option.some.injEq] at h
      refine ⟨y, rfl, ?_⟩
      rw [← h]
      unfold Addr.add
      split <;> rfl
end
end Go.Proofs.YtflnaiijdpihcaaGreatDoor
