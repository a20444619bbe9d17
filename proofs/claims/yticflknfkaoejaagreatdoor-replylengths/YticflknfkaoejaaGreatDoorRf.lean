/- Reply: scores, a number, numbers, an error's word. -/
import Derived.Test.YticflknfkaoejaaGreatDoorRe
namespace Go.Proofs.YticflknfkaoejaaGreatDoor
open Go.RowKit

theorem ex_at {W w : World} {r q : Nat} {s s' : RS} {t : WS} (h : At W w r s q t) (e : s' = s) : ∃ t', At W w r s' q t' := ⟨t, by rw [e]; exact h⟩
theorem many_more (one : WS → WS) : ∀ (k : Nat) (t : WS), manyW one (k + 1) t = one (manyW one k t)
  | 0, _ => rfl
  | k + 1, t => many_more one k (one t)
set_option maxRecDepth 100000 in
set_option maxHeartbeats 2000000 in
theorem scores_ok {sc : List UInt8 → Bool} (hs : Scs sc) (n : Nat) (hn : n ≤ 10) {W w : World} {r q : Nat} {s : RS} {t : WS} (h : At W w r s q t) : Calls Tryz.prog 46 #[ptr r, ptr q, iv n] w fun e w' => e = .returned (.tuple #[]) ∧ (∃ t', At W w' r (s.scores sc n t) q t') ∧ Fr (rq r q) w w' := by
  unfold RS.scores
  have H := hide h
  have HN := hide hn
  clear h
  go_enter Tryz.func46, Tryz.ntmps46
  go_wp2_with fail
  go_loopw [7] (fun i wr => ∃ k : Nat, i = iv k ∧ Hid (k ≤ n ∧ At W wr r s q (manyW (WS.score sc) k t) ∧ Fr (rq r q) w wr)) (fun i _ => n - (RowKit.intOf i).toNat)
  case atStart => exact ⟨0, rfl, hide ⟨Nat.zero_le _, unhide H, Fr.refl _ _⟩⟩
  case round =>
    obtain ⟨k, rfl, HK⟩ := hrel
    by_cases hlt : k < n
    · have hlt' : ((k : Int) < n) = True := by simp; omega
      have HL := hide hlt
      have HS := hide (at_score hs (unhide HK).2.1)
      have hk10 : k < 10 := by have := unhide HN; omega
      clear hlt
      go_wp2_with fail
      refine (unhide HS).mono ?_
      rintro e w1 ⟨⟨x, rfl⟩, k1, f1⟩
      have K1 := hide (And.intro k1 ((unhide HK).2.2.trans (fq (r := r) f1)))
      clear k1 f1
      go_wp2
      exact ⟨⟨k + 1, by go_num, hide ⟨by have := unhide HL; omega, by rw [many_more]; exact (unhide K1).1, (unhide K1).2⟩⟩, by have := unhide HL; simp [RowKit.intOf]; omega⟩
    · have hlt' : ((k : Int) < n) = False := by simp; omega
      have HE := hide (show k = n by have := (unhide HK).1; omega)
      have HD := hide (done_ok (unhide HK).2.1)
      clear hlt
      go_wp2_with fail
      refine (unhide HD).mono ?_
      rintro e w1 ⟨rfl, k1, f1⟩
      rw [unhide HE] at k1
      have K1 := hide (And.intro k1 ((unhide HK).2.2.trans (fr (q := q) f1)))
      clear k1 f1
      go_wp2
      go_end0
      exact ⟨rfl, ⟨_, (unhide K1).1⟩, (unhide K1).2⟩

set_option maxRecDepth 100000 in
set_option maxHeartbeats 2000000 in
theorem rnumber_ok {W w : World} {r q : Nat} {s : RS} {t : WS} (h : At W w r s q t) : Calls Tryz.prog 47 #[ptr r, ptr q] w fun e w' => e = .returned (.tuple #[]) ∧ (∃ t', At W w' r (s.number t) q t') ∧ Fr (rq r q) w w' := by
  have HN := hide (at_next h)
  have hsw := (sm_word h.st).1
  unfold RS.number
  obtain ⟨l, hl⟩ : ∃ l, t.word = l := ⟨_, rfl⟩
  rw [hl] at HN hsw ⊢
  have hP := fun w => Tryz.strings_CutPrefix (bs l) ⟨#[45]⟩ w
  rw [bs_data, show (⟨#[45]⟩ : ByteArray).data.toList = [45] from rfl] at hP
  have hm : ∃ d x, Lib.trimPrefix l [45] = d ∧ Lib.hasPrefix l [45] = x ∧ minusO l = ((numO d).isSome && !(x && (numO d).getD 0 == 0)) ∧ Sm d := by
    refine ⟨_, _, rfl, rfl, ?_, ?_⟩
    · rcases l with _ | ⟨c, d⟩
      · show (numO []).isSome = ((numO []).isSome && !(false && _))
        simp
      · by_cases hc : c = 45
        · subst hc
          show ((numO d).isSome && !((numO d).getD 0 == 0)) = ((numO d).isSome && !(true && _))
          simp
          rfl
        · have e1 : Lib.hasPrefix (c :: d) [45] = false := by simp [Lib.hasPrefix, List.isPrefixOf]; exact fun e => hc e.symm
          have e2 : Lib.trimPrefix (c :: d) [45] = c :: d := by unfold Lib.trimPrefix; rw [e1]; rfl
          rw [e1, e2]
          have e3 : minusO (c :: d) = (numO (c :: d)).isSome := by
            unfold minusO
            split
            · rename_i e; cases e; exact absurd rfl hc
            · rfl
          rw [e3]; simp
    · have : (Lib.trimPrefix l [45]).length ≤ l.length := by
        unfold Lib.trimPrefix; split <;> (try simp only [List.length_drop, List.length_cons, List.length_nil]) <;> omega
      simp only [Sm] at *; omega
  obtain ⟨d, x, h1, h2, h3, h4⟩ := hm
  rw [h1, h2] at hP
  rw [h3]
  obtain ⟨o, ho⟩ : ∃ o, numO d = o := ⟨_, rfl⟩
  rw [ho]
  have HO := hide ho
  have HP := hide hP
  have H4 := hide h4
  clear h hsw h1 h2 h3 h4 ho hP hl
  go_enter Tryz.func47, Tryz.ntmps47
  go_wp2_with fail
  refine (unhide HN).mono ?_
  rintro e w1 ⟨rfl, k1, f1⟩
  have K1 := hide k1
  have F1 := hide f1
  have hL := lnumber_ok d (unhide H4) k1.kn
  rw [unhide HO] at hL
  have HL := hide hL
  clear k1 f1 hL HN
  go_wp2_with fail
  refine (unhide HP _).mono ?_
  rintro e w9 ⟨rfl, he⟩
  replace he := he.symm
  subst he
  go_wp2_with fail
  refine (unhide HL).mono ?_
  rintro e w2 ⟨rfl, s2⟩
  have K2 := hide ((unhide K1).still s2)
  have F2 := hide ((fq (r := r) (unhide F1)).trans (fs s2))
  clear s2 HL HP
  unfold numV
  have HA := hide (fun b => at_wask (unhide K2) b)
  have HB := hide (show ∀ w3, At W w3 r s q (t.next.ask (o.isSome && !(x && o.getD 0 == 0))) → Calls Tryz.prog 40 #[ptr r, ptr q] w3 fun e w' => e = .returned (.tuple #[]) ∧ At W w' r (s.done (t.next.ask (o.isSome && !(x && o.getD 0 == 0)))) q (t.next.ask (o.isSome && !(x && o.getD 0 == 0))) ∧ Fr (fun k => k = r) w3 w' from fun w3 k => done_ok k)
  rcases o with _ | n
  · go_wp2_with fail
    refine (unhide HA _).mono ?_
    rintro e w3 ⟨rfl, k3, f3⟩
    have F3 := hide ((unhide F2).trans (fq (r := r) f3))
    have HD := hide (unhide HB w3 k3)
    clear k3 f3
    go_wp2_with fail
    refine (unhide HD).mono ?_
    rintro e w4 ⟨rfl, k4, f4⟩
    have K4 := hide (And.intro k4 ((unhide F3).trans (fr (q := q) f4)))
    clear k4 f4
    go_wp2
    go_end0
    exact ⟨rfl, ⟨_, (unhide K4).1⟩, (unhide K4).2⟩
  · have hz : ((n : Int) == 0) = (n == 0) := by
      rw [Bool.eq_iff_iff]; simp
    obtain ⟨z, hz2⟩ : ∃ z, (n == 0) = z := ⟨_, rfl⟩
    simp only [Option.getD_some, Option.isSome_some] at *
    rw [hz2] at hz HB
    have HZ := hide hz2
    clear hz2
    cases x <;> cases z
    all_goals
      go_wp2_with fail
      refine (unhide HA _).mono ?_
      rintro e w3 ⟨rfl, k3, f3⟩
      have F3 := hide ((unhide F2).trans (fq (r := r) f3))
      have HD := hide (unhide HB w3 k3)
      clear k3 f3
      go_wp2_with fail
      refine (unhide HD).mono ?_
      rintro e w4 ⟨rfl, k4, f4⟩
      have K4 := hide (And.intro k4 ((unhide F3).trans (fr (q := q) f4)))
      clear k4 f4
      go_wp2
      go_end0
      refine ⟨rfl, ex_at (unhide K4).1 ?_, (unhide K4).2⟩
      rw [show ((some n).getD 0 == 0) = _ from unhide HZ]
      rfl
end Go.Proofs.YticflknfkaoejaaGreatDoor
