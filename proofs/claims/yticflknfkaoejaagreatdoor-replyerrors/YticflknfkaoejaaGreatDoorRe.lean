/- Reply: a reader and the words of its line, side by side; a line's end, its scores, a number, numbers, an error's word. -/
import Derived.Test.YticflknfkaoejaaGreatDoorRd
import Derived.Deep.RegionWith
namespace Go.Proofs.YticflknfkaoejaaGreatDoor
open Go.RowKit

/-- A reader and the words of a line in memory. -/
structure At (W w : World) (r : Nat) (s : RS) (q : Nat) (t : WS) : Prop where
  kn : Kn W w
  rd : Rdr w r s
  wd : Wrd w q t
  hr : W.heap.size ≤ r
  hq : W.heap.size ≤ q
  ne : r ≠ q
  sr : Sm s.r
  st : Sm t.l
abbrev rq (r q : Nat) : Nat → Prop := fun k => k = r ∨ k = q
theorem At.words {W w w' : World} {r q : Nat} {s : RS} {t t' : WS} (h : At W w r s q t) (k : Wrd w' q t') (f : Fr (fun k => k = q) w w') (hl : Sm t'.l) : At W w' r s q t' :=
  ⟨h.kn.step f fun k e => by rw [e]; exact h.hq, f.obj h.rd fun e => h.ne e, k, h.hr, h.hq, h.ne, h.sr, hl⟩
theorem At.reader {W w w' : World} {r q : Nat} {s s' : RS} {t : WS} (h : At W w r s q t) (k : Rdr w' r s') (f : Fr (fun k => k = r) w w') (hl : Sm s'.r) : At W w' r s' q t :=
  ⟨h.kn.step f fun k e => by rw [e]; exact h.hr, k, f.obj h.wd fun e => h.ne e.symm, h.hr, h.hq, h.ne, hl, h.st⟩
theorem At.still {W w w' : World} {r q : Nat} {s : RS} {t : WS} (h : At W w r s q t) (f : Still w w') : At W w' r s q t :=
  ⟨h.kn.still f, f.obj h.rd fun x => x, f.obj h.wd fun x => x, h.hr, h.hq, h.ne, h.sr, h.st⟩
theorem fq {w w' : World} {r q : Nat} (f : Fr (fun k => k = q) w w') : Fr (rq r q) w w' := f.mono fun _ e => .inl (.inr e)
theorem fr {w w' : World} {r q : Nat} (f : Fr (fun k => k = r) w w') : Fr (rq r q) w w' := f.mono fun _ e => .inl (.inl e)
theorem fs {F : Nat → Prop} {w w' : World} (f : Still w w') : Fr F w w' := f.mono fun _ x => x.elim

theorem sm_word {t : WS} (h : Sm t.l) : Sm t.word ∧ Sm t.next.l := by have := word_le t; simp only [Sm] at *; omega

theorem at_next {W w : World} {r q : Nat} {s : RS} {t : WS} (h : At W w r s q t) : Calls Tryz.prog 39 #[ptr q] w fun e w' => e = .returned (.string (bs t.word)) ∧ At W w' r s q t.next ∧ Fr (fun k => k = q) w w' :=
  (next_ok h.wd h.st h.kn).mono fun _ _ ⟨e, k, f⟩ => ⟨e, h.words k f (sm_word h.st).2, f⟩
theorem at_number {W w : World} {r q : Nat} {s : RS} {t : WS} (h : At W w r s q t) : Calls Tryz.prog 49 #[ptr q] w fun e w' => e = .returned (iv (t.num : Nat)) ∧ At W w' r s q t.number ∧ Fr (fun k => k = q) w w' :=
  (number_ok h.wd h.st h.kn h.hq).mono fun _ _ ⟨e, k, f⟩ => ⟨e, h.words k f (sm_word h.st).2, f⟩
theorem at_name {W w : World} {r q : Nat} {s : RS} {t : WS} (h : At W w r s q t) : Calls Tryz.prog 66 #[ptr q] w fun e w' => (∃ x, e = .returned (.string x)) ∧ At W w' r s q t.name ∧ Fr (fun k => k = q) w w' :=
  (name_ok h.wd h.st h.kn).mono fun _ _ ⟨e, k, f⟩ => ⟨e, h.words k f (sm_word h.st).2, f⟩
theorem at_score {sc : List UInt8 → Bool} (hs : Scs sc) {W w : World} {r q : Nat} {s : RS} {t : WS} (h : At W w r s q t) : Calls Tryz.prog 67 #[ptr q] w fun e w' => (∃ x, e = .returned (.float .f64 x)) ∧ At W w' r s q (t.score sc) ∧ Fr (fun k => k = q) w w' :=
  (score_ok hs h.wd h.st h.kn h.hq).mono fun _ _ ⟨e, k, f⟩ => ⟨e, h.words k f (sm_word h.st).2, f⟩
theorem at_wask {W w : World} {r q : Nat} {s : RS} {t : WS} (h : At W w r s q t) (x : Bool) : Calls Tryz.prog 69 #[ptr q, .bool x] w fun e w' => e = .returned (.tuple #[]) ∧ At W w' r s q (t.ask x) ∧ Fr (fun k => k = q) w w' :=
  (wask_ok h.wd x).mono fun _ _ ⟨e, k, f⟩ => ⟨e, h.words k f h.st, f⟩

set_option maxRecDepth 100000 in
set_option maxHeartbeats 1000000 in
theorem rask_ok {r : Nat} {s : RS} {w : World} (h : Rdr w r s) (x : Bool) :
    Calls Tryz.prog 62 #[ptr r, .bool x] w fun e w' => e = .returned (.tuple #[]) ∧ Rdr w' r (s.ask x) ∧ Fr (fun k => k = r) w w' := by
  have c2 := cell_of_obj h 1
  simp at c2
  have f2 := frozen_of_obj h 1
  have H := hide h
  clear h
  cases hb : s.b <;> rw [hb] at c2 <;> cases x
  all_goals
    go_enter Tryz.func62, Tryz.ntmps62
    go_wp2
    go_end0
    refine ⟨rfl, ?_, fr_set (Fr.refl (fun k => k = r) w) _ _⟩
    unfold RS.ask
    rw [hb]
    first | (have k2 := obj_set (unhide H) 1 (.bool true); exact k2) | (have k2 := obj_set (unhide H) 1 (.bool false); exact k2)
theorem at_ask {W w : World} {r q : Nat} {s : RS} {t : WS} (h : At W w r s q t) (x : Bool) : Calls Tryz.prog 62 #[ptr r, .bool x] w fun e w' => e = .returned (.tuple #[]) ∧ At W w' r (s.ask x) q t ∧ Fr (fun k => k = r) w w' :=
  (rask_ok h.rd x).mono fun _ _ ⟨e, k, f⟩ => ⟨e, h.reader k f h.sr, f⟩

set_option maxRecDepth 100000 in
set_option maxHeartbeats 1000000 in
theorem done_ok {W w : World} {r q : Nat} {s : RS} {t : WS} (h : At W w r s q t) : Calls Tryz.prog 40 #[ptr r, ptr q] w fun e w' => e = .returned (.tuple #[]) ∧ At W w' r (s.done t) q t ∧ Fr (fun k => k = r) w w' := by
  have HD := hide (wdone_ok h.wd)
  have HA := hide (at_ask h)
  clear h
  go_enter Tryz.func40, Tryz.ntmps40
  go_wp2_with fail
  refine (unhide HD).mono ?_
  rintro e w1 ⟨rfl, he⟩
  replace he := he.symm
  subst he
  go_wp2_with fail
  refine (unhide HA _).mono ?_
  rintro e w2 ⟨rfl, k1, k2⟩
  go_wp2
  go_end0
  exact ⟨rfl, k1, k2⟩

set_option maxRecDepth 100000 in
set_option maxHeartbeats 2000000 in
theorem value_ok {W w : World} {r q : Nat} {s : RS} {t : WS} (h : At W w r s q t) : Calls Tryz.prog 42 #[ptr r, ptr q] w fun e w' => e = .returned (.tuple #[]) ∧ (∃ t', At W w' r (s.value t) q t') ∧ Fr (rq r q) w w' := by
  have HN := hide (at_number h)
  unfold RS.value
  obtain ⟨n, hn⟩ : ∃ n, t.num = n := ⟨_, rfl⟩
  rw [hn] at HN ⊢
  obtain ⟨u, hu⟩ : ∃ u, t.number = u := ⟨_, rfl⟩
  rw [hu] at HN ⊢
  have hsd : Sm (s.done u).r := h.sr
  obtain ⟨s1, hs1⟩ : ∃ s1, s.done u = s1 := ⟨_, rfl⟩
  rw [hs1] at hsd ⊢
  have HE := hide hs1
  have HS := hide hsd
  clear h hn hu hs1 hsd
  go_enter Tryz.func42, Tryz.ntmps42
  go_wp2_with fail
  refine (unhide HN).mono ?_
  rintro e w1 ⟨rfl, k1, f1⟩
  have F1 := hide f1
  have HD := hide (done_ok k1)
  rw [unhide HE] at HD
  clear k1 f1
  go_wp2_with fail
  refine (unhide HD).mono ?_
  rintro e w2 ⟨rfl, k2, f2⟩
  have F2 := hide (Fr.trans (fq (r := r) (unhide F1)) (fr (q := q) f2))
  have K2 := hide k2
  have c0 := cell_of_obj k2.rd 0
  have c1 := cell_of_obj k2.rd 1
  simp at c0 c1
  have z0 := frozen_of_obj k2.rd 0
  have z1 := frozen_of_obj k2.rd 1
  have hsz := bs_size s1.r
  obtain ⟨bb, hbb⟩ : ∃ bb, s1.b = bb := ⟨_, rfl⟩
  rw [hbb] at c1
  have HB := hide hbb
  clear k2 f2 HD HN hbb
  have bad : (s1.b = true ∨ s1.r.length < n) → Rdr (w2.setCell ⟨r, 1, none⟩ (.bool true)) r (s1.load n) := fun hx => by
    have e : s1.load n = ⟨s1.r, true⟩ := by unfold RS.load; rw [if_pos hx]
    rw [e]
    exact obj_set (unhide K2).rd 1 (.bool true)
  have HX := hide bad
  clear bad
  cases bb
  · by_cases hl : s1.r.length < n
    · have hl' : ((s1.r.length : Int) < (n : Int)) = True := by simp; omega
      have HL := hide hl
      clear hl
      go_wp2
      all_goals refine bodyPost_ret (results_none rfl _ _ _) rfl ?_
      all_goals exact ⟨rfl, ⟨u, (unhide K2).reader (unhide HX (.inr (unhide HL))) (fr_set (Fr.refl (fun k => k = r) w2) _ _) (by have := unhide HS; unfold RS.load; rw [if_pos (.inr (unhide HL))]; exact this)⟩, (unhide F2).setCell (.inl (.inl rfl)) _⟩
    · have hl' : ((s1.r.length : Int) < (n : Int)) = False := by simp; omega
      have hfr := fun w => bs_from s1.r n .i64 (by omega) w
      have HL := hide (show ¬ (s1.b = true ∨ s1.r.length < n) by rw [unhide HB]; simp; omega)
      have hP := fun w => Tryz.strings_CutPrefix (bs (s1.r.drop n)) ⟨#[10]⟩ w
      rw [bs_data, show (⟨#[10]⟩ : ByteArray).data.toList = [10] from rfl] at hP
      have hdl : (s1.r.drop n).length ≤ s1.r.length := by simp
      have HDL := hide hdl
      have hload : ∃ d x, Lib.trimPrefix (s1.r.drop n) [10] = d ∧ Lib.hasPrefix (s1.r.drop n) [10] = x ∧ s1.load n = RS.ask ⟨d, s1.b⟩ x ∧ d.length ≤ s1.r.length := by
        refine ⟨_, _, rfl, rfl, ?_, ?_⟩
        · unfold RS.load
          rw [if_neg (unhide HL), unhide HB]
          rcases s1.r.drop n with _ | ⟨c, d⟩
          · rfl
          · by_cases hc : c = 10
            · subst hc; rfl
            · have e1 : Lib.hasPrefix (c :: d) [10] = false := by simp [Lib.hasPrefix, List.isPrefixOf]; exact fun e => hc e.symm
              have e2 : Lib.trimPrefix (c :: d) [10] = c :: d := by unfold Lib.trimPrefix; rw [e1]; rfl
              rw [e1, e2]
              simp only [RS.ask]
              split
              · rename_i e; cases e; exact absurd rfl hc
              · rfl
        · have : (Lib.trimPrefix (s1.r.drop n) [10]).length ≤ (s1.r.drop n).length := by
            unfold Lib.trimPrefix; split <;> simp only [List.length_drop, List.length_cons, List.length_nil] <;> omega
          omega
      obtain ⟨d, x, h1, h2, h3, h4⟩ := hload
      rw [h1, h2] at hP
      have HP := hide hP
      have HR := hide (And.intro h3 h4)
      have e1 : ∀ u, (w2.setCell ⟨r, 0, none⟩ u).cell? ⟨r, 1, none⟩ = some (.bool false) := fun u => by
        rw [cell_of_obj (obj_set (unhide K2).rd 0 u) 1]; simp [unhide HB]
      clear hl h1 h2 h3 h4 hP hdl
      go_wp2_with fail
      refine (unhide HP _).mono ?_
      rintro e w9 ⟨rfl, he⟩
      replace he := he.symm
      subst he
      go_wp2_with fail
      have k3 : At W (w2.setCell ⟨r, 0, none⟩ (.string (bs d))) r ⟨d, s1.b⟩ q u := (unhide K2).reader (obj_set (unhide K2).rd 0 _) (fr_set (Fr.refl (fun k => k = r) w2) _ _) (by have := unhide HS; have := (unhide HR).2; simp only [Sm] at *; omega)
      refine (at_ask k3 x).mono ?_
      rintro e w4 ⟨rfl, k4, f4⟩
      have K4 := hide k4
      have F4 := hide (((unhide F2).setCell (.inl (.inl rfl)) _).trans (fr (q := q) f4))
      clear k3 k4 f4
      go_wp2
      go_end0
      exact ⟨rfl, ⟨u, by rw [(unhide HR).1]; exact unhide K4⟩, unhide F4⟩
  · go_wp2
    all_goals refine bodyPost_ret (results_none rfl _ _ _) rfl ?_
    all_goals exact ⟨rfl, ⟨u, (unhide K2).reader (unhide HX (.inl (unhide HB))) (fr_set (Fr.refl (fun k => k = r) w2) _ _) (by have := unhide HS; unfold RS.load; rw [if_pos (.inl (unhide HB))]; exact this)⟩, (unhide F2).setCell (.inl (.inl rfl)) _⟩
end Go.Proofs.YticflknfkaoejaaGreatDoor
