/- From. -/
import Derived.Test.YtkdehhmmcchgfaaBk
namespace Go.Proofs.Ytkdehhmmcchgfaa
open Go.RowKit

/-- What hangs on numbers, told by a function value: what it keeps (J: what was asked for, its blocks), what it tells. -/
structure Hangs (of : OfF) (U : List Int) (fnum : Nat) (lb : Array Value) (J : List Int → (Nat → Prop) → World → Prop) : Prop where
  enter : ∀ args w, (callFunc fnum args).run Try.prog w = .ok (.enter fnum args) w
  lt : ∀ d S W, J d S W → ∀ k, S k → k < W.heap.size
  kept : ∀ d S W W' (F : Nat → Prop), J d S W → Fr F W W' → (∀ k, S k → ¬ F k) → J d S W'
  call : ∀ d S W x, J d S W → x ∈ U → x ≠ 0 → d.length ≤ 900 → Calls Try.prog fnum (#[iv x] ++ lb) W fun e W' => ∃ v S', e = .returned (.tuple #[v, iv (of x).2]) ∧ J (d ++ [x]) S' W' ∧ Own W' W.heap.size v (of x).1 ∧ Fr S W W' ∧ ∀ k, S' k → S k ∨ W.heap.size ≤ k
  inU : ∀ x ∈ U, ∀ y ∈ (of x).1, y ∈ U
  few : U.length ≤ 600
  short : ∀ x ∈ U, (of x).1.length ≤ 20
  wf : ∀ x ∈ U, (Lit.int .i64 x).wf = true

/-- How long the row is that a variable holds. -/
def lenAt (w : World) (b : Nat) : Nat := match w.cell? ⟨b, 0, none⟩ with | some v => lenOf v | none => 0
/-- Between two rounds. -/
structure Fm (of : OfF) (most : Int) (R : List Int × List Int × Int) (U : List Int) (J : List Int → (Nat → Prop) → World → Prop) (w : World) (S0 : Nat → Prop) (bF mb bW : Nat) (wr : World) (acc : List Int) (v : Value) (q d : List Int) (S : Nat → Prop) (k : Nat) : Prop where
  st : St wr w.heap.size bF mb bW acc v q
  mem : ∀ x, x ∈ q ↔ x ∈ acc ∧ x ∉ d
  nd : q.Nodup
  sub : ∀ x ∈ acc, x ∈ U
  rn : run of most k (srt acc) d = R
  j : J d S wr
  dl : d.length + q.length = acc.length
  ds : ∀ x ∈ d, x ∈ acc
  ap : ∀ j, S j → ¬ sb bF mb bW v j
  fr : Fr S0 w wr
  sS : ∀ j, S j → S0 j ∨ w.heap.size ≤ j

theorem eq_nil_of (g : Nat) (ca : Array Value) (w : World) : (binOp .eql 24 (.func (.func g) #[] ca) .nilFunc).run Try.prog w = .ok (.bool false) w := by kernel_rfl

theorem make_set (w : World) : (Instr.makeMap 42 none).run Try.prog w = .ok (.map (some w.heap.size)) (w.alloc (.map #[] 0)) := by kernel_rfl

theorem nodup_len : ∀ (l m : List Int), l.Nodup → (∀ x ∈ l, x ∈ m) → l.length ≤ m.length
  | [], _, _, _ => Nat.zero_le _
  | x :: t, m, hn, hs => by
    have hx : x ∈ m := hs x (by simp)
    have hn' := List.nodup_cons.1 hn
    have h := nodup_len t (m.erase x) hn'.2 fun y hy => (List.mem_erase_of_ne (fun e => hn'.1 (by rw [← e]; exact hy))).2 (hs y (by simp [hy]))
    rw [List.length_erase_of_mem hx] at h
    have : 0 < m.length := List.length_pos_of_mem hx
    simp only [List.length_cons]
    omega
theorem lenAt_of {W : World} {bW base : Nat} {v : Value} {q : List Int} (h : Qu W bW base v q) : lenAt W bW = q.length := by
  obtain ⟨a, c, rfl⟩ := rows_form h.own
  have c0 : W.cell? ⟨bW, 0, none⟩ = some (.slice a q.length c) := cell_of_obj h.box 0
  simp [lenAt, c0, lenOf]

section
variable {of : OfF} {U : List Int} {fnum : Nat} {lb : Array Value} {J : List Int → (Nat → Prop) → World → Prop}

set_option maxRecDepth 100000 in
set_option maxHeartbeats 4000000 in
theorem from_ok (H : Hangs of U fnum lb J) (w : World) (S0 : Nat → Prop) (a : Option Addr) (n c : Nat) (roots : List Int) (most : Int) (N : Nat) (R : List Int × List Int × Int) (hR : run of most N (rise roots) [] = R) (hR1 : R.2.2 ≠ -1)
    (hr : Rd w a roots) (hn : n = roots.length) (hroots : ∀ x ∈ roots, x ∈ U) (hn20 : n ≤ 100) (hal : ∀ b o, a = some ⟨b, o, none⟩ → b < w.heap.size) (j0 : J [] S0 w) :
    Calls Try.prog 8 #[.slice a n c, .func (.func fnum) #[] lb, .int .i64 most] w fun e w' => ∃ v S', e = .returned (.tuple #[v, iv R.2.2]) ∧ (R.2.2 = 0 → Own w' w.heap.size v R.1) ∧ (R.2.2 ≠ 0 → v = .slice none 0 0) ∧ J R.2.1 S' w' ∧ Fr S0 w w' ∧ ∀ k, S' k → S0 k ∨ w.heap.size ≤ k := by
  have HH := hide H; have HR := hide (And.intro hR (And.intro hR1 (And.intro hr (And.intro hn (And.intro hroots (And.intro hal j0))))))
  clear H hR hR1 hr hn hroots hal j0
  have hnil := eq_nil_of fnum lb
  have hmm := make_set
  go_enter Try.func8, Try.ntmps8
  go_wp2_with fail
  obtain ⟨W0, hW0⟩ : ∃ W0, ((w.alloc (.map #[] 0)).alloc (.cells #[.map (some w.heap.size)] 42)).alloc (.cells #[.slice none 0 0] 43) = W0 := ⟨_, rfl⟩
  have f0 : Still w W0 := hW0 ▸ (((Fr.refl _ w).alloc _).alloc _).alloc _
  have z0 : W0.heap.size = w.heap.size + 3 := by rw [← hW0]; simp
  have s0 : St W0 w.heap.size (w.heap.size + 1) w.heap.size (w.heap.size + 1 + 1) [] (.slice none 0 0) [] := by
    have e1 : W0.heap[w.heap.size]? = some (.map #[] 0) := by
      rw [← hW0]
      exact (Below.heap_alloc _ _ _ (by simp; omega)).trans ((Below.heap_alloc _ _ _ (by simp)).trans (heap_alloc_new w _))
    have e2 : W0.heap[w.heap.size + 1]? = some (.cells #[.map (some w.heap.size)] 42 (0, 0)) := by
      rw [← hW0]
      refine (Below.heap_alloc _ _ _ (by simp)).trans ?_
      have := heap_alloc_new (w.alloc (.map #[] 0)) (.cells #[.map (some w.heap.size)] 42)
      simpa using this
    have e3 : W0.heap[w.heap.size + 1 + 1]? = some (.cells #[.slice none 0 0] 43 (0, 0)) := by
      rw [← hW0]
      have := heap_alloc_new ((w.alloc (.map #[] 0)).alloc (.cells #[.map (some w.heap.size)] 42)) (.cells #[.slice none 0 0] 43)
      simpa using this
    refine ⟨e2, ?_, ⟨e3, Own.nil _ _, IsHeap.nil, fun k hk => by cases hk⟩, by simp, fun x hx => by simp at hx, by omega, by omega, by omega, fun k hk => (by cases hk), by omega, by omega, by omega⟩
    have := World.ownsMap_made (H := Unit) w Try.prog 3 (unitElem (H := Unit))
    obtain ⟨es, cl, h1, h2⟩ := this
    rw [heap_alloc_new] at h1
    cases h1
    exact ⟨#[], 0, e1, h2⟩
  rw [hW0]
  have FD := find_ok W0 w.heap.size (w.heap.size + 1) w.heap.size (w.heap.size + 1 + 1) [] [] (.slice none 0 0) a n c roots s0 ((unhide HR).2.2.1.still f0) (fun b o e => by
    have := (unhide HR).2.2.2.2.2.1 b o e
    rintro (x | x | x)
    · omega
    · omega
    · cases x) (unhide HR).2.2.2.1 (fun x hx => (unhide HH).wf x ((unhide HR).2.2.2.2.1 x hx)) (by simp; omega) (by simp) f0.size
  refine FD.mono ?_
  rintro e W1 ⟨rfl, v1, q1, s1, p1, f1, l1⟩
  have FM : Fm of most R U J w S0 (w.heap.size + 1) w.heap.size (w.heap.size + 1 + 1) W1 (fnd [] roots) v1 q1 [] S0 N := by
    obtain ⟨hR, hR1, hr, hn, hroots, hal, j0⟩ := unhide HR
    have H := unhide HH
    have jl := H.lt _ _ _ j0
    have f01 : Still w W1 := f0.trans' f1 (fun k hk => by
      rcases hk with e | e | e
      · exact .inr (by omega)
      · exact .inr (by omega)
      · cases e)
    have pp : q1.Perm (fnd [] roots) := by simpa using p1
    refine ⟨s1, fun x => by rw [pp.mem_iff]; simp, pp.nodup_iff.2 s1.nd, fun x hx => ?_, hR, H.kept _ _ _ _ _ j0 f01 (fun _ _ x => x), by simpa using pp.length_eq, fun x hx => by simp at hx, fun k hk hb => ?_, f01.mono (fun k hk => hk.elim), fun k hk => .inl hk⟩
    · rcases (fnd_mem [] roots x).1 hx with h | h
      · simp at h
      · exact hroots x h.1
    · have := jl k hk
      have := (s1.lt k hb).1
      omega
  have HF := hide FM
  clear hW0 f0 z0 s0 FD s1 p1 f1 l1 FM hmm hnil
  obtain ⟨mb, hmb⟩ : ∃ mb, w.heap.size = mb := ⟨_, rfl⟩
  obtain ⟨bF, hbF⟩ : ∃ b, w.heap.size + 1 = b := ⟨_, rfl⟩
  obtain ⟨bW, hbW⟩ : ∃ b, w.heap.size + 1 + 1 = b := ⟨_, rfl⟩
  rw [hbW, hbF] at HF ⊢
  have HB := hide (And.intro hmb (And.intro hbF hbW))
  obtain ⟨ac1, hac1⟩ : ∃ ac, fnd [] roots = ac := ⟨_, rfl⟩
  rw [hac1] at HF
  clear hac1 hbF hbW hmb
  go_wp2_with fail
  go_loopw [] (fun wr => ∃ (acc : List Int) (v : Value) (q d : List Int) (S : Nat → Prop) (k : Nat), Hid (Fm of most R U J w S0 bF w.heap.size bW wr acc v q d S k)) (fun wr => 2 * (700 - mapN wr w.heap.size) + lenAt wr bW)
  case atStart => exact ⟨_, _, _, _, _, _, HF⟩
  case round =>
    obtain ⟨acc, v, q, d, S, k, HI⟩ := hrel
    have fm := unhide HI
    have H := unhide HH
    obtain ⟨sa, sc, hv⟩ := rows_form fm.st.qu.own
    subst hv
    have c0 : wr.cell? ⟨bW, 0, none⟩ = some (.slice sa q.length sc) := cell_of_obj fm.st.qu.box 0
    have cF : wr.cell? ⟨bF, 0, none⟩ = some (.map (some w.heap.size)) := cell_of_obj fm.st.fbox 0
    have hacc : acc.length ≤ 600 := Nat.le_trans (nodup_len acc U fm.st.nd fm.sub) H.few
    have hrn := fm.rn
    have hnx := nxt_of (found := srt acc) (done := d) (q := q) (srt_lt fm.st.nd) (fun x => by rw [fm.mem x, srt_mem]) fm.st.qu.heap
    have hm1 : 2 * (700 - mapN wr w.heap.size) + lenAt wr bW = 2 * (700 - acc.length) + q.length := by rw [mapN_of fm.st.map fm.st.nd, lenAt_of fm.st.qu]
    have HM1 := hide hm1
    cases k with
    | zero => exact absurd (by rw [← hrn]; rfl) (unhide HR).2.1
    | succ k =>
    unfold run at hrn
    rw [hnx] at hrn
    cases q with
    | nil =>
      have hRR : R = (srt acc, d, 0) := hrn.symm
      have HRR := hide hRR
      have KS := keys_sorted wr w.heap.size acc fm.st.map fm.st.nd (by omega)
      clear fm H hrn hnx hm1 hRR
      have hz : (0 : Int) < (0 : Nat) ↔ False := by simp
      go_wp2_with fail
      refine (keys_call _ wr).mono ?_
      rintro e w1 ⟨rfl, rfl⟩
      have HKS := hide KS
      clear KS c0 cF
      go_wp2_with fail
      refine (unhide HKS).mono ?_
      rintro e w2 ⟨v2, rfl, o2, f2⟩
      have HO := hide (And.intro o2 f2)
      clear o2 f2 HKS
      go_wp2
      go_ret2
      obtain ⟨o2, f2⟩ := unhide HO
      have fm := unhide HI
      rw [unhide HRR]
      exact ⟨v2, S, rfl, fun _ => o2.from fm.fr.size, fun x => absurd rfl x, (unhide HH).kept _ _ _ _ _ fm.j f2 (fun _ _ x => x), fm.fr.trans' f2 (fun _ x => x.elim), fm.sS⟩
    | cons y t =>
      simp only [List.head?_cons] at hrn
      rw [srt_len] at hrn
      have hlm : ∀ ty, (Builtin.len_ #[42] ty #[.map (some w.heap.size)]).run Try.prog wr = .ok (.int .i64 acc.length) wr := fun ty => by
        have := fm.st.map.len Try.underlying42 ty
        rw [setD_size acc fm.st.nd] at this
        exact this
      have hq0 : (0 : Int) < ((t.length + 1 : Nat) : Int) := by omega
      by_cases hmost : most < (acc.length : Int)
      · have hRR : R = (srt acc, d, 5) := by rw [if_pos hmost] at hrn; exact hrn.symm
        have HRR := hide hRR
        have hmost' : decide (most < (acc.length : Int)) = true := by simp only [hmost, decide_true]
        simp only [List.length_cons] at c0
        generalize t.length + 1 = tl at *
        clear fm H hrn hnx hm1 hRR HM1
        go_wp2
        go_ret2
        have fm := unhide HI
        rw [unhide HRR]
        exact ⟨_, S, rfl, fun x => absurd x (by simp), fun _ => rfl, fm.j, fm.fr, fm.sS⟩
      · rw [if_neg hmost] at hrn
        have hmost' : decide (most < (acc.length : Int)) = false := by simp only [hmost, decide_false]
        have hyq : y ∈ y :: t := by simp
        have hya := (fm.mem y).1 hyq
        have hyU := fm.sub y hya.1
        have hy0 := fm.st.n0 y hya.1
        have TK := take_ok wr bW w.heap.size t.length _ (y :: t) fm.st.qu (by simp) (by have := fm.dl; simp at this; omega)
        have hOf : ∀ (w2 : World) (v2 : Value), Fr (qf bW (.slice sa (y :: t).length sc)) wr w2 → Calls Try.prog fnum (#[iv y] ++ lb) w2 fun e W' => ∃ v S', e = .returned (.tuple #[v, iv (of y).2]) ∧ J (d ++ [y]) S' W' ∧ Own W' w2.heap.size v (of y).1 ∧ Fr S w2 W' ∧ ∀ k, S' k → S k ∨ w2.heap.size ≤ k := fun w2 v2 f2 =>
          H.call d S w2 y (H.kept _ _ _ _ _ fm.j f2 (fun j hj hq => fm.ap j hj (hq.elim (fun e => .inr (.inr (.inl e))) (fun e => .inr (.inr (.inr e)))))) hyU hy0 (by have := fm.dl; omega)
        have HOF := @hide _ hOf
        have HY := hide (And.intro hya (And.intro hyU hy0))
        have HRN := hide hrn
        have hen := H.enter
        clear fm H hrn hnx hm1 hOf hyq hya hyU hy0
        have HTK := hide TK
        clear TK
        generalize htl : (y :: t).length = tl at *
        have HTL := hide htl
        clear htl
        have hq1 : (0 : Int) < (tl : Int) := by have := unhide HTL; simp at this; omega
        have hq2 : 0 < tl := by omega
        go_wp2_with fail
        refine (unhide HTK).mono ?_
        rintro e w2 ⟨rfl, v2, q2, qu2, p2, f2, l2⟩
        have HC := unhide HOF w2 v2 f2
        have H2 := hide (And.intro qu2 (And.intro p2 (And.intro f2 l2)))
        clear qu2 p2 f2 l2 HTK HOF c0 cF hlm
        have hyd : (y :: t).getD 0 0 = y := rfl
        rw [hyd]
        have HCC := hide HC
        clear HC hyd
        generalize hee : (of y).2 = ee at *
        have HEE := hide hee
        clear hee
        by_cases he0 : ee = 0
        rotate_left
        · have he' : (ee != 0) = true := by simp [he0]
          have hRR : R = (srt acc, d ++ [y], ee) := by
            have h := unhide HRN
            rw [if_neg he0] at h
            exact h.symm
          have HRR := hide (And.intro hRR he0)
          clear hRR he0
          go_wp2_with (first | (go_at_fn fnum; refine (unhide HCC).mono ?_; rintro e w3 ⟨rv, S3, rfl, j3, o3, f3, s3⟩; have H3 := hide (And.intro j3 (And.intro o3 (And.intro f3 s3))); clear j3 o3 f3 s3) | fail)
          go_ret2
          obtain ⟨j3, o3, f3, s3⟩ := unhide H3
          obtain ⟨qu2, p2, f2, l2⟩ := unhide H2
          obtain ⟨hRR, he0⟩ := unhide HRR
          have fm := unhide HI
          rw [hRR]
          have f02 : Fr S0 w w2 := fm.fr.trans' f2 (fun j hj => .inr (fm.st.lt j (hj.elim (fun e => .inr (.inr (.inl e))) (fun e => .inr (.inr (.inr e))))).1)
          exact ⟨_, S3, rfl, fun x => absurd x he0, fun _ => rfl, j3, f02.trans' f3 fm.sS, fun j hj => (s3 j hj).elim (fun e => fm.sS j e) (fun e => .inr (Nat.le_trans f02.size e))⟩
        · have he' : (ee != 0) = false := by simp [he0]
          have hrn2 : run of most k (rise (srt acc ++ (of y).1)) (d ++ [y]) = R := by
            have h := unhide HRN
            rw [if_pos he0] at h
            exact h
          have HRR := hide hrn2
          clear hrn2 he0
          go_wp2_with (first | (go_at_fn fnum; refine (unhide HCC).mono ?_; rintro e w3 ⟨rv, S3, rfl, j3, o3, f3, s3⟩; have H3 := hide (And.intro j3 (And.intro o3 (And.intro f3 s3))); clear j3 o3 f3 s3) | fail)
          obtain ⟨j3, o3, f3, s3⟩ := unhide H3
          obtain ⟨qu2, p2, f2, l2⟩ := unhide H2
          have fm := unhide HI
          have H := unhide HH
          obtain ⟨hya, hyU, hy0⟩ := unhide HY
          have f02 : Fr S0 w w2 := fm.fr.trans' f2 (fun j hj => .inr (fm.st.lt j (hj.elim (fun e => .inr (.inr (.inl e))) (fun e => .inr (.inr (.inr e))))).1)
          have l2' : ∀ j, sb bF w.heap.size bW v2 j ↔ sb bF w.heap.size bW (.slice sa tl sc) j := fun j => by unfold sb; rw [l2]
          have st2 : St w2 w.heap.size bF w.heap.size bW acc v2 q2 := by
            have s1 := fm.st
            refine ⟨f2.obj s1.fbox ?_, ownsMap_block s1.map (f2.block _ s1.ltm ?_), qu2, s1.nd, s1.n0, s1.d1, s1.d2, s1.d3, fun j hj => s1.nv j (l2 ▸ hj), s1.lo⟩
            · rintro (e | e)
              · exact s1.d2 e
              · exact (s1.nv _ e).1 rfl
            · rintro (e | e)
              · exact s1.d3 e
              · exact (s1.nv _ e).2 rfl
          have ap2 : ∀ j, S j → ¬ sb bF w.heap.size bW v2 j := fun j hj hb => by
            have := fm.ap j hj
            exact this ((l2' j).1 hb)
          have st3 := st2.kept f3 (fun j hb hj => ap2 j hj hb)
          obtain ⟨ra, rc, hrv⟩ := rows_form o3
          subst hrv
          have q2l : q2.length + 1 = tl := by rw [← unhide HTL, ← p2.length_eq]; simp
          have hdl := fm.dl
          rw [unhide HTL] at hdl
          obtain ⟨ra', rc', e1, hcap, hrd, hrb⟩ := o3.rd
          cases e1
          have hsh := H.short y hyU
          have FD := find_ok w3 w.heap.size bF w.heap.size bW acc q2 v2 ra (of y).1.length rc (of y).1 st3 hrd (fun b o e hb => by
            have h1 := (hrb b o e).1
            have h2 := (st2.lt b (hb.elim (fun e => .inr (.inl e)) (fun e => e.elim (fun e => .inr (.inr (.inl e))) (fun e => .inr (.inr (.inr e)))))).2
            omega) rfl (fun x hx => H.wf x (H.inU y hyU x hx)) (by omega) (by omega) (Nat.le_trans f02.size f3.size)
          have HX := hide (And.intro f02 (And.intro st2 (And.intro ap2 (And.intro st3 (And.intro q2l hdl)))))
          have HFD := hide FD
          clear j3 o3 f3 s3 qu2 p2 f2 l2 fm H hya hyU hy0 f02 l2' st2 ap2 st3 q2l hdl hcap hrd hrb hsh FD
          go_wp2_with fail
          refine (unhide HFD).mono ?_
          rintro e w4 ⟨rfl, v4, q4, st4, p4, f4, l4⟩
          have H4 := hide (And.intro st4 (And.intro p4 (And.intro f4 l4)))
          clear st4 p4 f4 l4 HFD
          go_wp2
          obtain ⟨st4, p4, f4, l4⟩ := unhide H4
          obtain ⟨f02, st2, ap2, st3, q2l, hdl⟩ := unhide HX
          obtain ⟨j3, o3, f3, s3⟩ := unhide H3
          obtain ⟨qu2, p2, f2, l2⟩ := unhide H2
          obtain ⟨hya, hyU, hy0⟩ := unhide HY
          have fm := unhide HI
          have H := unhide HH
          obtain ⟨nn, hnn⟩ := fnd_grow acc (of y).1
          have hdrop : (fnd acc (of y).1).drop acc.length = nn := by rw [hnn]; simp
          rw [hdrop] at p4
          have nda := st4.nd
          rw [hnn, List.nodup_append] at nda
          have q2m : ∀ x, x ∈ q2 ↔ x ∈ y :: t ∧ x ≠ y := fun x => by
            have hn2 : (y :: q2).Nodup := p2.nodup_iff.2 fm.nd
            have := p2.mem_iff (a := x)
            rw [← this]
            simp only [List.mem_cons]
            constructor
            · intro hx
              exact ⟨.inr hx, fun e => (List.nodup_cons.1 hn2).1 (e ▸ hx)⟩
            · rintro ⟨e | e, h⟩
              · exact absurd e h
              · exact e
          have hnd2 : q2.Nodup := (List.nodup_cons.1 (p2.nodup_iff.2 fm.nd)).2
          have l4lt : ∀ j, S3 j → j < w3.heap.size := H.lt _ _ _ j3
          have sf2 : ∀ j, sf w.heap.size bW v2 j → sb bF w.heap.size bW v2 j := fun j hj => hj.elim (fun e => .inr (.inl e)) (fun e => e.elim (fun e => .inr (.inr (.inl e))) (fun e => .inr (.inr (.inr e))))
          have ap3 : ∀ j, S3 j → ¬ sb bF w.heap.size bW v2 j := fun j hj hb => by
            rcases s3 j hj with e | e
            · exact ap2 j e hb
            · have := (st2.lt j hb).2; omega
          refine ⟨⟨fnd acc (of y).1, v4, q4, d ++ [y], S3, k, hide ⟨st4, fun x => ?_, ?_, fun x hx => ?_, ?_, H.kept _ _ _ _ _ j3 f4 (fun j hj hb => ap3 j hj (sf2 j hb)), ?_, fun x hx => ?_, fun j hj hb => ?_, ?_, ?_⟩⟩, ?_⟩
          · rw [p4.mem_iff, List.mem_append, q2m, fm.mem, hnn, List.mem_append, List.mem_append]
            constructor
            · rintro (⟨⟨h1, h2⟩, h3⟩ | h1)
              · exact ⟨.inl h1, fun e => e.elim h2 (fun e => h3 (by simpa using e))⟩
              · refine ⟨.inr h1, fun e => ?_⟩
                rcases e with e | e
                · exact nda.2.2 x (fm.ds x e) x h1 rfl
                · have : x = y := by simpa using e
                  exact nda.2.2 y hya.1 x h1 this.symm
            · rintro ⟨h1 | h1, h2⟩
              · exact .inl ⟨⟨h1, fun e => h2 (.inl e)⟩, fun e => h2 (.inr (by simp [e]))⟩
              · exact .inr h1
          · rw [p4.nodup_iff, List.nodup_append]
            exact ⟨hnd2, nda.2.1, fun x hx z hz e => nda.2.2 x ((fm.mem x).1 ((q2m x).1 hx).1).1 z hz e⟩
          · rcases (fnd_mem acc _ x).1 hx with h | h
            · exact fm.sub x h
            · exact H.inU y hyU x h.1
          · rw [rise_fnd fm.st.nd fm.st.n0]; exact unhide HRR
          · rw [p4.length_eq, hnn]
            simp only [List.length_append, List.length_singleton]
            omega
          · rw [hnn]
            rcases List.mem_append.1 hx with h | h
            · exact List.mem_append.2 (.inl (fm.ds x h))
            · simp at h; exact List.mem_append.2 (.inl (h ▸ hya.1))
          · rcases hb with e | e | e | e
            · exact ap3 j hj (.inl e)
            · exact ap3 j hj (.inr (.inl e))
            · exact ap3 j hj (.inr (.inr (.inl e)))
            · rcases l4 with e2 | ⟨g, e2, hg⟩
              · exact ap3 j hj (.inr (.inr (.inr (e2 ▸ e))))
              · rw [e2] at e; cases e; have := l4lt _ hj; omega
          · exact (f02.trans' f3 fm.sS).trans' f4 (fun j hj => .inr (st2.lt j (sf2 j hj)).1)
          · intro j hj
            exact (s3 j hj).elim (fun e => fm.sS j e) (fun e => .inr (Nat.le_trans f02.size e))
          · rw [unhide HM1, mapN_of st4.map st4.nd, lenAt_of st4.qu, p4.length_eq, hnn]
            have hfew : (acc ++ nn).length ≤ 600 := by
              rw [← hnn]
              refine Nat.le_trans (nodup_len _ U st4.nd fun x hx => ?_) H.few
              rcases (fnd_mem acc _ x).1 hx with h | h
              · exact fm.sub x h
              · exact H.inU y hyU x h.1
            have h1 := unhide HTL
            simp only [List.length_append, List.length_cons] at *
            omega
end
end Go.Proofs.Ytkdehhmmcchgfaa
