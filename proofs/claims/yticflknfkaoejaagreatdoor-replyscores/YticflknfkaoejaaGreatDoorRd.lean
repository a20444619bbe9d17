/- Reply: words as names, numbers and scores. -/
import Derived.Test.YticflknfkaoejaaGreatDoorRc
namespace Go.Proofs.YticflknfkaoejaaGreatDoor
open Go.RowKit

theorem wask_fr {q : Nat} {s : WS} {w : World} (h : Wrd w q s) (x : Bool) :
    Calls Tryz.prog 69 #[ptr q, .bool x] w fun e w' => e = .returned (.tuple #[]) ∧ Wrd w' q (s.ask x) ∧ Fr (fun k => k = q) w w' := wask_ok h x

set_option maxRecDepth 100000 in
set_option maxHeartbeats 1000000 in
theorem name_ok {q : Nat} {s : WS} {W w : World} (h : Wrd w q s) (hl : Sm s.l) (hK : Kn W w) :
    Calls Tryz.prog 66 #[ptr q] w fun e w' => (∃ t, e = .returned (.string t)) ∧ Wrd w' q s.name ∧ Fr (fun k => k = q) w w' := by
  have hle : s.word.length ≤ 9223372036854775807 := by have := (cut_le 32 s.l).1; unfold WS.word; omega
  have HN := hide (next_ok h hl hK)
  have HI := hide (isName_ok s.word hle)
  clear h hK
  go_enter Tryz.func66, Tryz.ntmps66
  go_wp2_with fail
  refine (unhide HN).mono ?_
  rintro e w1 ⟨rfl, k1, k2⟩
  go_wp2_with fail
  refine (unhide HI _).mono ?_
  rintro e w9 ⟨rfl, he⟩
  replace he := he.symm
  subst he
  have f2 := frozen_of_obj k1 2
  have e2 : w1.cell? ⟨q, 2, none⟩ = some (.bool s.b) := cell_of_obj k1 2
  have K := hide (And.intro k1 k2)
  clear k1 k2
  cases hn : isN s.word
  · go_wp2
    go_ret
    refine ⟨⟨_, rfl⟩, ?_, fr_set (unhide K).2 _ _⟩
    have k := obj_set (unhide K).1 2 (.bool true)
    have e : s.name = ⟨s.next.l, s.next.m, true⟩ := by unfold WS.name WS.ask; rw [hn]; simp
    rw [e]; exact k
  · go_wp2
    go_ret
    refine ⟨⟨_, rfl⟩, ?_, (unhide K).2⟩
    have e : s.name = s.next := by unfold WS.name WS.ask; rw [hn]; simp
    rw [e]; exact (unhide K).1

theorem isNumber_ok (v : Int) (w : World) : Calls Tryz.prog 85 #[iv v] w fun e w' => e = .returned (.bool (decide (0 ≤ v ∧ v ≤ 999999999))) ∧ w' = w := by
  by_cases h0 : 0 ≤ v
  · by_cases h1 : v ≤ 999999999
    · have h0' : ((0 : Int) ≤ v) = True := by simp [h0]
      have h1' : (v ≤ 999999999) = True := by simp [h1]
      have HR := hide (show decide (0 ≤ v ∧ v ≤ 999999999) = true from decide_eq_true ⟨h0, h1⟩)
      clear h0 h1
      go_enter Tryz.func85, Tryz.ntmps85
      go_wp2
      go_ret
      exact ⟨by rw [unhide HR]; rfl, rfl⟩
    · have h0' : ((0 : Int) ≤ v) = True := by simp [h0]
      have h1' : (v ≤ 999999999) = False := by simp [h1]
      have HR := hide (show decide (0 ≤ v ∧ v ≤ 999999999) = false from decide_eq_false (fun h => h1 h.2))
      clear h0 h1
      go_enter Tryz.func85, Tryz.ntmps85
      go_wp2
      go_ret
      exact ⟨by rw [unhide HR]; rfl, rfl⟩
  · have h0' : ((0 : Int) ≤ v) = False := by simp [h0]
    have HR := hide (show decide (0 ≤ v ∧ v ≤ 999999999) = false from decide_eq_false (fun h => h0 h.1))
    clear h0
    go_enter Tryz.func85, Tryz.ntmps85
    go_wp2
    go_ret
    exact ⟨by rw [unhide HR]; rfl, rfl⟩

theorem atoi_any (l : List UInt8) (hl : Sm l) {W w : World} (hK : Kn W w) : Calls Tryz.prog 84 #[.string (bs l)] w fun e w' =>
    (match Lib.atoiAll l with | .ok v => e = .returned (.tuple #[iv v, .nilIface]) | _ => ∃ v t p, e = .returned (.tuple #[iv v, .iface t p])) ∧ Still w w' := by
  obtain ⟨⟨e1, h1, h2⟩, ⟨e2, h3, h4⟩⟩ := hK.look.errs
  have hs : (bs l).size ≤ 281474976710656 := by rw [bs_size]; omega
  have hB : ∀ t, Still w (Lib.bytesWorld w 5 t) := fun t => ⟨rfl, rfl, rfl, by rw [Lib.bytesWorld_size]; omega, fun k hk _ => Lib.bytesWorld_at_old w 5 t k hk⟩
  cases hp : Lib.atoiAll l with
  | ok v =>
    refine (Tryz.strconv_Atoi_ok (bs l) (by omega) v hp w).mono fun e w' k => ⟨k.1, ?_⟩
    rcases k.2 with rfl | ⟨t, rfl⟩
    · exact Fr.refl _ _
    · exact hB t
  | «syntax» => exact (Tryz.strconv_Atoi_syntax (bs l) hs hp e1 w h1 h2).mono fun e w' ⟨N, k1, _, _, k4⟩ => ⟨⟨_, _, _, k1⟩, Fr.ofBelow k4⟩
  | range => exact (Tryz.strconv_Atoi_range (bs l) hs hp e2 w h3 h4).mono fun e w' ⟨N, k1, _, _, k4⟩ => ⟨⟨_, _, _, k1⟩, Fr.ofBelow k4⟩
theorem itoa_ok (n : Int) (h0 : -9223372036854775808 ≤ n) (h1 : n ≤ 9223372036854775807) {W w : World} (hK : Kn W w) : Calls Tryz.prog 30 #[iv n] w fun e w' => e = .returned (.string (bs (Lib.itoa n))) ∧ Still w w' := by
  refine (Tryz.strconv_Itoa n h0 h1 w hK.look.pow).mono ?_
  rintro e w' ⟨rfl, k, os, rfl⟩
  exact ⟨rfl, grow_still w k os⟩

/-- A number with its answer, as values. -/
def numV (o : Option Nat) : Value := .tuple #[iv ((o.getD 0 : Nat) : Int), .bool o.isSome]
set_option maxRecDepth 100000 in
set_option maxHeartbeats 1000000 in
theorem lnumber_ok (l : List UInt8) (hl : Sm l) {W w : World} (hK : Kn W w) : Calls Tryz.prog 68 #[.string (bs l)] w fun e w' => e = .returned (numV (numO l)) ∧ Still w w' := by
  have HA := hide (atoi_any l hl hK)
  have HK := hide hK
  clear hK
  go_enter Tryz.func68, Tryz.ntmps68
  go_wp2_with fail
  refine (unhide HA).mono ?_
  intro e w2 hq
  have S2 := hide hq.2
  have hq1 := hq.1
  clear hq HA
  cases hp : Lib.atoiAll l with
  | ok v =>
    rw [hp] at hq1
    obtain rfl := hq1
    by_cases hv : 0 ≤ v ∧ v ≤ 999999999
    · obtain ⟨n, rfl⟩ : ∃ n : Nat, v = n := ⟨v.toNat, by omega⟩
      have hN := isNumber_ok (n : Int)
      rw [decide_eq_true hv] at hN
      have HI := hide (itoa_ok (n : Int) (by omega) (by omega) ((unhide HK).still (unhide S2)))
      have HV := hide hv
      have hit : Lib.itoa (n : Int) = Lib.decDigits n := by unfold Lib.itoa; rw [if_neg (by omega)]; rfl
      rw [hit] at HI
      clear hv hit
      go_wp2_with fail
      refine (hN _).mono ?_
      rintro e w9 ⟨rfl, he⟩
      replace he := he.symm
      subst he
      go_wp2_with fail
      refine (unhide HI).mono ?_
      rintro e w3 ⟨rfl, s3⟩
      have S3 := hide ((unhide S2).trans s3)
      by_cases hsa : Lib.decDigits n = l
      · have hq : ((bs (Lib.decDigits n)).toList == (bs l).toList) = true := by rw [hsa]; simp
        have HN := hide (show numO l = some n by unfold numO; rw [hp]; simp only; rw [if_pos ⟨(unhide HV).1, (unhide HV).2, by rw [Int.toNat_natCast]; exact hsa⟩]; rfl)
        clear s3 hsa
        go_wp2
        go_ret2
        exact ⟨by rw [unhide HN]; rfl, unhide S3⟩
      · have hq : ((bs (Lib.decDigits n)).toList == (bs l).toList) = false := by rw [bs_list, bs_list]; exact beq_eq_false_iff_ne.2 hsa
        have HN := hide (show numO l = none by unfold numO; rw [hp]; simp only; rw [if_neg (by rw [Int.toNat_natCast]; exact fun h => hsa h.2.2)])
        clear s3 hsa
        go_wp2
        go_ret2
        exact ⟨by rw [unhide HN]; rfl, unhide S3⟩
    · have hN := isNumber_ok v
      rw [decide_eq_false hv] at hN
      have HN := hide (show numO l = none by unfold numO; rw [hp]; simp only; rw [if_neg (fun h => hv ⟨h.1, h.2.1⟩)])
      clear hv
      go_wp2_with fail
      refine (hN _).mono ?_
      rintro e w9 ⟨rfl, he⟩
      replace he := he.symm
      subst he
      go_wp2
      go_ret2
      exact ⟨by rw [unhide HN]; rfl, unhide S2⟩
  | «syntax» =>
    rw [hp] at hq1
    obtain ⟨v, te, pe, rfl⟩ := hq1
    have HN := hide (show numO l = none by unfold numO; rw [hp])
    go_wp2
    go_ret2
    exact ⟨by rw [unhide HN]; rfl, unhide S2⟩
  | range =>
    rw [hp] at hq1
    obtain ⟨v, te, pe, rfl⟩ := hq1
    have HN := hide (show numO l = none by unfold numO; rw [hp])
    go_wp2
    go_ret2
    exact ⟨by rw [unhide HN]; rfl, unhide S2⟩

theorem word_le (s : WS) : s.word.length ≤ s.l.length ∧ s.next.l.length ≤ s.l.length := cut_le 32 s.l
set_option maxRecDepth 100000 in
set_option maxHeartbeats 1000000 in
theorem number_ok {q : Nat} {s : WS} {W w : World} (h : Wrd w q s) (hl : Sm s.l) (hK : Kn W w) (hq : W.heap.size ≤ q) :
    Calls Tryz.prog 49 #[ptr q] w fun e w' => e = .returned (iv (s.num : Nat)) ∧ Wrd w' q s.number ∧ Fr (fun k => k = q) w w' := by
  have HW := hide (word_le s)
  have HN := hide (next_ok h hl hK)
  have HK := hide (And.intro hK (And.intro hl hq))
  unfold WS.num WS.number
  obtain ⟨o, ho⟩ : ∃ o, numO s.word = o := ⟨_, rfl⟩
  rw [ho]
  have HO := hide ho
  clear h hK hl hq ho
  go_enter Tryz.func49, Tryz.ntmps49
  go_wp2_with fail
  refine (unhide HN).mono ?_
  rintro e w1 ⟨rfl, k1, k2⟩
  have K := hide (And.intro k1 k2)
  have hL := lnumber_ok s.word (by have := (unhide HK).2.1; have := (unhide HW).1; simp only [Sm] at *; omega) ((unhide HK).1.step k2 (fun k e => by rw [e]; exact (unhide HK).2.2))
  rw [unhide HO] at hL
  have HL := hide hL
  clear k1 k2 hL HO
  go_wp2_with fail
  refine (unhide HL).mono ?_
  rintro e w2 ⟨rfl, s2⟩
  have k3 : Wrd w2 q s.next := s2.obj (unhide K).1 (fun x => x)
  have F2 : Fr (fun k => k = q) w w2 := (unhide K).2.trans' s2 fun _ x => x.elim
  have HA := hide (wask_ok k3)
  have HF := hide F2
  clear k3 F2 s2
  unfold numV
  go_wp2_with fail
  refine (unhide HA _).mono ?_
  rintro e w3 ⟨rfl, k4, k5⟩
  go_wp2
  go_ret
  exact ⟨rfl, k4, (unhide HF).trans k5⟩

/-- Which words are scores. -/
structure Scs (sc : List UInt8 → Bool) : Prop where
  ok : ∀ l, Sm l → ∃ o : Option Nat, o.isSome = sc l ∧ ∀ w, Lk w → Calls Tryz.prog 83 #[.string (bs l)] w fun e w' => e = .returned (readV o) ∧ Below w.heap.size w w'
theorem scs : ∃ sc, Scs sc := by
  classical
  have h : ∀ l : List UInt8, Sm l → (bs l).size ≤ 281474976710656 := fun l hl => by rw [bs_size]; simp only [Sm] at hl; omega
  refine ⟨fun l => if hl : Sm l then (Classical.choose (reads (bs l) (h l hl))).isSome else false, ⟨fun l hl => ?_⟩⟩
  refine ⟨Classical.choose (reads (bs l) (h l hl)), ?_, (Classical.choose_spec (reads (bs l) (h l hl))).2.1⟩
  show _ = if hl : Sm l then (Classical.choose (reads (bs l) (h l hl))).isSome else false
  rw [dif_pos hl]
set_option maxRecDepth 100000 in
set_option maxHeartbeats 1000000 in
theorem score_ok {sc : List UInt8 → Bool} (hs : Scs sc) {q : Nat} {s : WS} {W w : World} (h : Wrd w q s) (hl : Sm s.l) (hK : Kn W w) (hq : W.heap.size ≤ q) :
    Calls Tryz.prog 67 #[ptr q] w fun e w' => (∃ x, e = .returned (.float .f64 x)) ∧ Wrd w' q (s.score sc) ∧ Fr (fun k => k = q) w w' := by
  have HW := hide (word_le s)
  have HN := hide (next_ok h hl hK)
  have HK := hide (And.intro hK (And.intro hl hq))
  obtain ⟨o, ho, hP⟩ := hs.ok s.word (by have := (unhide HW).1; simp only [Sm] at *; omega)
  unfold WS.score
  rw [← ho]
  have HP := hide hP
  clear h hK hl hq hP ho
  go_enter Tryz.func67, Tryz.ntmps67
  go_wp2_with fail
  refine (unhide HN).mono ?_
  rintro e w1 ⟨rfl, k1, k2⟩
  have K := hide (And.intro k1 k2)
  have HL := hide (unhide HP w1 ((unhide HK).1.step k2 (fun k e => by rw [e]; exact (unhide HK).2.2)).look)
  clear k1 k2 HP
  go_wp2_with fail
  refine (unhide HL).mono ?_
  rintro e w2 ⟨rfl, s2⟩
  have k3 : Wrd w2 q s.next := (still_of s2).obj (unhide K).1 (fun x => x)
  have F2 : Fr (fun k => k = q) w w2 := (unhide K).2.trans' (still_of s2) fun _ x => x.elim
  have HA := hide (wask_ok k3)
  have HF := hide F2
  clear k3 F2 s2
  unfold readV
  cases o
  all_goals
    go_wp2_with fail
    refine (unhide HA _).mono ?_
    rintro e w3 ⟨rfl, k4, k5⟩
    go_wp2
    go_ret
    exact ⟨⟨_, rfl⟩, k4, (unhide HF).trans k5⟩
end Go.Proofs.YticflknfkaoejaaGreatDoor
