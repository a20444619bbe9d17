/- Reply: a line is taken; pairs, members, so many of them; an answer. -/
import Derived.Test.YticflknfkaoejaaGreatDoorRg
namespace Go.Proofs.YticflknfkaoejaaGreatDoor
open Go.RowKit

/-- A reader by itself. -/
structure Rk (W w : World) (r : Nat) (s : RS) : Prop where
  kn : Kn W w
  rd : Rdr w r s
  hr : W.heap.size ≤ r
  sr : Sm s.r
theorem At.rk {W w : World} {r q : Nat} {s : RS} {t : WS} (h : At W w r s q t) : Rk W w r s := ⟨h.kn, h.rd, h.hr, h.sr⟩
theorem Rk.still {W w w' : World} {r : Nat} {s : RS} (h : Rk W w r s) (f : Still w w') : Rk W w' r s := ⟨h.kn.still f, f.obj h.rd fun x => x, h.hr, h.sr⟩
theorem Rk.reader {W w w' : World} {r : Nat} {s s' : RS} (h : Rk W w r s) (k : Rdr w' r s') (f : Fr (fun k => k = r) w w') (hl : Sm s'.r) : Rk W w' r s' :=
  ⟨h.kn.step f fun k e => by rw [e]; exact h.hr, k, h.hr, hl⟩

set_option maxRecDepth 100000 in
set_option maxHeartbeats 1000000 in
theorem of_ok (l : List UInt8) (w : World) : Calls Tryz.prog 63 #[.string (bs l)] w fun e w' => e = .returned (ptr w.heap.size) ∧ Wrd w' w.heap.size ⟨l, true, false⟩ ∧ Still w w' ∧ w.heap.size < w'.heap.size := by
  go_enter Tryz.func63, Tryz.ntmps63
  go_wp2
  go_ret
  refine ⟨rfl, heap_alloc_new w _, (Fr.refl _ w).alloc _, ?_⟩
  simp

set_option maxRecDepth 100000 in
set_option maxHeartbeats 2000000 in
theorem line_ok {W w : World} {r : Nat} {s : RS} (h : Rk W w r s) : Calls Tryz.prog 38 #[ptr r] w fun e w' => ∃ q, e = .returned (ptr q) ∧ w.heap.size ≤ q ∧ At W w' r s.line q s.words ∧ Fr (fun k => k = r) w w' := by
  unfold RS.line RS.words
  have hle := cut_le 10 s.r
  have HC := hide (cut_call 10 s.r h.sr h.kn)
  have hrlt : r < w.heap.size := (Array.getElem?_eq_some_iff.1 h.rd).1
  obtain ⟨c, hc⟩ : ∃ c, cutc 10 s.r = c := ⟨_, rfl⟩
  rw [hc] at HC hle ⊢
  obtain ⟨a1, a2, a3⟩ := c
  simp only at hle HC ⊢
  have H := hide (And.intro h (And.intro hle hrlt))
  have c0 := cell_of_obj h.rd 0
  simp at c0
  have z0 : ∀ n, (w.drewN n).frozen? ⟨r, 0, none⟩ = false := fun n => frozen_of_obj h.rd 0
  have x0 : ∀ n, (w.drewN n).cell? ⟨r, 0, none⟩ = some (.string (bs s.r)) := fun n => cell_of_obj h.rd 0
  clear h hle hc hrlt
  go_enter Tryz.func38, Tryz.ntmps38
  go_wp2_with fail
  refine (unhide HC).mono ?_
  rintro e w1 ⟨rfl, n, rfl⟩
  have k1 : Rk W ((w.drewN n).setCell ⟨r, 0, none⟩ (.string (bs a2))) r ⟨a2, s.b⟩ :=
    (Rk.still (unhide H).1 ((Fr.refl _ w).drewN n)).reader (obj_set (show (w.drewN n).heap[r]? = _ from (unhide H).1.rd) 0 _) (fr_set (Fr.refl (fun k => k = r) _) _ _) (by have := (unhide H).1.sr; have := (unhide H).2.1; simp only [Sm] at *; omega)
  have F1 := hide (fr_set ((Fr.refl (fun k => k = r) w).drewN n) 0 (.string (bs a2)))
  have HA := hide (rask_ok k1.rd a3)
  have K1 := hide k1
  clear k1
  go_wp2_with fail
  refine (unhide HA).mono ?_
  rintro e w2 ⟨rfl, k2, f2⟩
  have K2 := hide ((unhide K1).reader k2 f2 (unhide K1).sr)
  have F2 := hide ((unhide F1).trans f2)
  have HO := hide (of_ok a1 w2)
  clear k2 f2 HA
  go_wp2_with fail
  refine (unhide HO).mono ?_
  rintro e w3 ⟨rfl, k3, s3, hlt⟩
  have K3 := hide k3
  have S3 := hide s3
  clear k3 s3 hlt
  go_wp2
  go_ret
  have hsz : w.heap.size ≤ w2.heap.size := (unhide F2).size
  refine ⟨w2.heap.size, rfl, hsz, ⟨(unhide K2).kn.still (unhide S3), (unhide S3).obj (unhide K2).rd (fun x => x), unhide K3, (unhide K2).hr, (unhide K2).kn.size, ?_, (unhide K2).sr, ?_⟩, (unhide F2).trans' (unhide S3) fun _ x => x.elim⟩
  · have := (unhide H).2.2; omega
  · have := (unhide H).1.sr; have := (unhide H).2.1; simp only [Sm] at *; omega

/-- Behind a line: the blocks that were there but the reader's have not turned. -/
theorem fr_new {r q : Nat} {w w1 w2 : World} (f1 : Fr (fun k => k = r) w w1) (f2 : Fr (rq r q) w1 w2) (hq : w.heap.size ≤ q) : Fr (fun k => k = r) w w2 := f1.trans' f2 fun k e => by
  rcases e with e | e
  · exact .inl e
  · exact .inr (by rw [e]; exact hq)

set_option maxRecDepth 100000 in
set_option maxHeartbeats 2000000 in
theorem pair_ok {W w : World} {r : Nat} {s : RS} (h : Rk W w r s) : Calls Tryz.prog 44 #[ptr r] w fun e w' => e = .returned (.tuple #[]) ∧ Rk W w' r s.pair ∧ Fr (fun k => k = r) w w' := by
  have HL := hide (line_ok h)
  unfold RS.pair
  clear h
  go_enter Tryz.func44, Tryz.ntmps44
  go_wp2_with fail
  refine (unhide HL).mono ?_
  rintro e w1 ⟨q, rfl, hq, k1, f1⟩
  have H1 := hide (And.intro hq f1)
  have HN := hide (at_name k1)
  clear hq k1 f1 HL
  go_wp2_with fail
  refine (unhide HN).mono ?_
  rintro e w2 ⟨⟨x, rfl⟩, k2, f2⟩
  have F2 := hide f2
  have HV := hide (value_ok k2)
  clear k2 f2 HN
  go_wp2_with fail
  refine (unhide HV).mono ?_
  rintro e w3 ⟨rfl, ⟨t, k3⟩, f3⟩
  have K3 := hide (And.intro k3.rk (fr_new (unhide H1).2 ((fq (r := r) (unhide F2)).trans f3) (unhide H1).1))
  clear k3 f3
  go_wp2
  go_end0
  exact ⟨rfl, (unhide K3).1, (unhide K3).2⟩
set_option maxRecDepth 100000 in
set_option maxHeartbeats 2000000 in
theorem member_ok {sc : List UInt8 → Bool} (hs : Scs sc) {W w : World} {r : Nat} {s : RS} (h : Rk W w r s) : Calls Tryz.prog 45 #[ptr r] w fun e w' => e = .returned (.tuple #[]) ∧ Rk W w' r (s.member sc) ∧ Fr (fun k => k = r) w w' := by
  have HL := hide (line_ok h)
  unfold RS.member
  clear h
  go_enter Tryz.func45, Tryz.ntmps45
  go_wp2_with fail
  refine (unhide HL).mono ?_
  rintro e w1 ⟨q, rfl, hq, k1, f1⟩
  have H1 := hide (And.intro hq f1)
  have HN := hide (at_name k1)
  clear hq k1 f1 HL
  go_wp2_with fail
  refine (unhide HN).mono ?_
  rintro e w2 ⟨⟨x, rfl⟩, k2, f2⟩
  have F2 := hide f2
  have HV := hide (scores_ok hs 1 (by decide) k2)
  clear k2 f2 HN
  go_wp2_with fail
  refine (unhide HV).mono ?_
  rintro e w3 ⟨rfl, ⟨t, k3⟩, f3⟩
  have K3 := hide (And.intro k3.rk (fr_new (unhide H1).2 ((fq (r := r) (unhide F2)).trans f3) (unhide H1).1))
  clear k3 f3
  go_wp2
  go_end0
  exact ⟨rfl, (unhide K3).1, (unhide K3).2⟩

set_option maxRecDepth 100000 in
set_option maxHeartbeats 2000000 in
theorem each_ok {W w : World} {r q : Nat} {s : RS} {t : WS} (h : At W w r s q t) (f : FuncId) (one : RS → RS) (hen : ∀ args w, (callFunc f args).run Tryz.prog w = .ok (.enter f args) w)
    (hone : ∀ w s, Rk W w r s → Calls Tryz.prog f #[ptr r] w fun e w' => e = .returned (.tuple #[]) ∧ Rk W w' r (one s) ∧ Fr (fun k => k = r) w w') :
    Calls Tryz.prog 43 #[ptr r, ptr q, .func (.func f) #[ptr r] #[]] w fun e w' => e = .returned (.tuple #[]) ∧ Rk W w' r (s.each one t) ∧ Fr (rq r q) w w' := by
  unfold RS.each
  have HN := hide (at_number h)
  have hnb : t.num ≤ 999999999 := by
    unfold WS.num numO
    split
    · split
      · simp; omega
      · simp
    · simp
  obtain ⟨n, hn⟩ : ∃ n, t.num = n := ⟨_, rfl⟩
  obtain ⟨u, hu⟩ : ∃ u, t.number = u := ⟨_, rfl⟩
  rw [hn] at HN hnb ⊢
  rw [hu] at HN ⊢
  have HO := hide hone
  clear h hn hu hone
  go_enter Tryz.func43, Tryz.ntmps43
  go_wp2_with fail
  refine (unhide HN).mono ?_
  rintro e w1 ⟨rfl, k1, f1⟩
  have F1 := hide (fq (r := r) f1)
  have HD := hide (done_ok k1)
  have HNB := hide hnb
  clear k1 f1 HN hnb
  go_wp2_with fail
  refine (unhide HD).mono ?_
  rintro e w2 ⟨rfl, k2, f2⟩
  have H2 := hide (show ∃ v, Rk W w2 r v ∧ eachR one n v = eachR one n (s.done u) from ⟨_, k2.rk, rfl⟩)
  have F2 := hide ((unhide F1).trans (fr (q := q) f2))
  clear k2 f2 HD
  go_wp2_with fail
  go_loopw [6] (fun i wr => ∃ k : Nat, i = iv k ∧ Hid (k ≤ n ∧ (∃ v, Rk W wr r v ∧ eachR one k v = eachR one n (s.done u)) ∧ Fr (rq r q) w wr)) (fun i _ => (RowKit.intOf i).toNat)
  case atStart => exact ⟨n, rfl, hide ⟨Nat.le_refl _, unhide H2, unhide F2⟩⟩
  case round =>
    obtain ⟨k, rfl, HK⟩ := hrel
    obtain ⟨hk0, ⟨v, kv, ev⟩, fv⟩ := unhide HK
    have hkb : k ≤ 999999999 := by have := unhide HNB; omega
    have HM := hide (unhide HO wr v kv)
    have HF := hide (And.intro hk0 (And.intro fv (And.intro ev kv)))
    have c1 : wr.cell? ⟨r, 1, none⟩ = some (.bool v.b) := cell_of_obj kv.rd 1
    clear HK kv ev fv hk0
    rcases k with _ | k
    · have h0 : ((0 : Int) < ((0 : Nat) : Int)) = False := by simp
      go_wp2
      go_end0
      exact ⟨rfl, by rw [← (unhide HF).2.2.1]; exact (unhide HF).2.2.2, (unhide HF).2.1⟩
    · have h0 : ((0 : Int) < ((k + 1 : Nat) : Int)) = True := by simp only [eq_iff_iff, iff_true]; omega
      have h1 : ((0 : Int) < (k : Int) + 1) = True := by simp only [eq_iff_iff, iff_true]; omega
      obtain ⟨b, hb⟩ : ∃ b, v.b = b := ⟨_, rfl⟩
      rw [hb] at c1
      have HB := hide hb
      clear hb
      cases b
      · go_wp2_with fail
        refine (unhide HM).mono ?_
        rintro e w3 ⟨rfl, k3, f3⟩
        have e3 : eachR one k (one v) = eachR one n (s.done u) := by
          rw [← (unhide HF).2.2.1]; show _ = if v.b = true then v else eachR one k (one v)
          rw [unhide HB]; rfl
        have K3 := hide (And.intro k3 (And.intro e3 ((unhide HF).2.1.trans (fr (q := q) f3))))
        clear k3 f3 e3
        go_wp2
        exact ⟨⟨k, by go_num, hide ⟨by have := (unhide HF).1; omega, ⟨_, (unhide K3).1, (unhide K3).2.1⟩, (unhide K3).2.2⟩⟩, by simp [RowKit.intOf]⟩
      · have e3 : v = eachR one n (s.done u) := by
          rw [← (unhide HF).2.2.1]; show _ = if v.b = true then v else eachR one k (one v)
          rw [unhide HB]; rfl
        have E3 := hide e3
        clear e3
        go_wp2
        go_end0
        exact ⟨rfl, by rw [← unhide E3]; exact (unhide HF).2.2.2, (unhide HF).2.1⟩
end Go.Proofs.YticflknfkaoejaaGreatDoor
