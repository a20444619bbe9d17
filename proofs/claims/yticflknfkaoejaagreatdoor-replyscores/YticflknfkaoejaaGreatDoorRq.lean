/- Reply: what is told is parted as it was: values, pairs, scores, members. -/
import Derived.Test.YticflknfkaoejaaGreatDoorRp
import Derived.Test.YticflknfkaoejaaGreatDoorErrorsW
import Derived.Lib.ParseIntBTie
namespace Go.Proofs.YticflknfkaoejaaGreatDoor
open Go.RowKit

theorem numO_dec (n : Nat) (h : n ≤ 999999999) : numO (Lib.decDigits n) = some n := by
  have h1 : Lib.itoa (n : Int) = Lib.decDigits n := by unfold Lib.itoa; rw [if_neg (by omega)]; rfl
  have h2 : Lib.atoiAll (Lib.decDigits n) = .ok (n : Int) := by
    rw [← Lib.parseIntB_64, ← h1]
    exact parse_itoa (n : Int) (by omega)
  unfold numO
  rw [h2]
  simp only
  rw [if_pos ⟨by omega, by omega, by rw [Int.toNat_natCast]⟩, Int.toNat_natCast]
theorem dec_no (n : Nat) : (10 : UInt8) ∉ Lib.decDigits n ∧ (32 : UInt8) ∉ Lib.decDigits n := by
  have h := (dec_props n).1
  exact ⟨fun k => by have := (h _ k).1; revert this; decide, fun k => by have := (h _ k).1; revert this; decide⟩
theorem load_ok (x t : List UInt8) : RS.load ⟨x ++ 10 :: t, false⟩ x.length = ⟨t, false⟩ := by
  unfold RS.load
  rw [if_neg (by simp only [Bool.false_eq_true, false_or, List.length_append]; omega)]
  have e : (x ++ 10 :: t).drop x.length = 10 :: t := by simp
  show (match (x ++ 10 :: t).drop x.length with | 10 :: d => (⟨d, false⟩ : RS) | d => ⟨d, true⟩) = _
  rw [e]; rfl
/-- A length that ends its line, and its bytes. -/
theorem value_at (x t : List UInt8) (h : x.length ≤ 999999999) : RS.value ⟨x ++ 10 :: t, false⟩ ⟨Lib.decDigits x.length, true, false⟩ = ⟨t, false⟩ := by
  have hd := dec_no x.length
  have h1 : (WS.mk (Lib.decDigits x.length) true false).num = x.length := by
    unfold WS.num; rw [(word_last _ hd.2 _ _).1, numO_dec _ h]; rfl
  have h2 : (WS.mk (Lib.decDigits x.length) true false).number = ⟨[], false, false⟩ := by
    unfold WS.number; rw [(word_last _ hd.2 _ _).1, (word_last _ hd.2 _ _).2, numO_dec _ h]; rfl
  unfold RS.value
  rw [h1, h2]
  exact load_ok x t
theorem ans_value (sc : List UInt8 → Bool) (x : List UInt8) (h : x.length ≤ 999999999) : IsAns sc (valueL [86, 65, 76, 85, 69] x) := by
  have hd := dec_no x.length
  refine ⟨by unfold valueL; rw [line2_len]; simp, fun t => ?_⟩
  have e1 : valueL [86, 65, 76, 85, 69] x ++ t = ([86, 65, 76, 85, 69] ++ 32 :: Lib.decDigits x.length) ++ 10 :: (x ++ 10 :: t) := by
    unfold valueL; rw [line2_len]; simp
  rw [e1, line_at sc _ _ (by simp [hd.1]), (word_at _ _ (by decide) _ _).1, (word_at _ _ (by decide) _ _).2]
  exact value_at x t h
theorem pair_at (k x t : List UInt8) (hk : isN k = true) (hx : x.length ≤ 999999999) : RS.pair ⟨valueL k x ++ t, false⟩ = ⟨t, false⟩ := by
  have hd := dec_no x.length
  have hkc : (10 : UInt8) ∉ k ∧ (32 : UInt8) ∉ k := by
    simp only [isN, Bool.and_eq_true, List.all_eq_true, decide_eq_true_eq] at hk
    exact ⟨fun h => by have := (hk.2 _ h).1; revert this; decide, fun h => by have := (hk.2 _ h).1; revert this; decide⟩
  have e1 : valueL k x ++ t = (k ++ 32 :: Lib.decDigits x.length) ++ 10 :: (x ++ 10 :: t) := by
    unfold valueL; rw [line2_len]; simp
  unfold RS.pair RS.line RS.words
  rw [e1, cut_some (by simp [hd.1, hkc.1])]
  show RS.value ⟨x ++ 10 :: t, false⟩ (WS.name ⟨k ++ 32 :: Lib.decDigits x.length, true, false⟩) = _
  unfold WS.name
  rw [(word_at _ _ hkc.2 _ _).1, (word_at _ _ hkc.2 _ _).2, hk]
  exact value_at x t hx
theorem each_at {α : Type} (one : RS → RS) (f : α → List UInt8) : ∀ (l : List α) (t : List UInt8), (∀ x ∈ l, ∀ t, one ⟨f x ++ t, false⟩ = ⟨t, false⟩) → eachR one l.length ⟨(l.map f).flatten ++ t, false⟩ = ⟨t, false⟩
  | [], _, _ => rfl
  | x :: l, t, h => by
    show (if false = true then _ else eachR one l.length (one _)) = _
    rw [if_neg (by simp), List.map_cons, List.flatten_cons, List.append_assoc, h x (by simp)]
    exact each_at one f l t fun y hy => h y (by simp [hy])
theorem each_line {α : Type} (one : RS → RS) (f : α → List UInt8) (l : List α) (t : List UInt8) (hl : l.length ≤ 999999999) (h : ∀ x ∈ l, ∀ t, one ⟨f x ++ t, false⟩ = ⟨t, false⟩) :
    RS.each one ⟨(l.map f).flatten ++ t, false⟩ ⟨Lib.decDigits l.length, true, false⟩ = ⟨t, false⟩ := by
  have hd := dec_no l.length
  have h1 : (WS.mk (Lib.decDigits l.length) true false).num = l.length := by
    unfold WS.num; rw [(word_last _ hd.2 _ _).1, numO_dec _ hl]; rfl
  have h2 : (WS.mk (Lib.decDigits l.length) true false).number = ⟨[], false, false⟩ := by
    unfold WS.number; rw [(word_last _ hd.2 _ _).1, (word_last _ hd.2 _ _).2, numO_dec _ hl]; rfl
  unfold RS.each
  rw [h1, h2]
  exact each_at one f l t h
theorem ans_pairs (sc : List UInt8 → Bool) (ps : List (List UInt8 × List UInt8)) (hn : ps.length ≤ 999999999) (h : ∀ k x, (k, x) ∈ ps → isN k = true ∧ x.length ≤ 999999999) : IsAns sc (pairsL ps) := by
  have hd := dec_no ps.length
  refine ⟨by unfold pairsL; rw [line2_len]; simp, fun t => ?_⟩
  have e1 : pairsL ps ++ t = ([80,65,73,82,83] ++ 32 :: Lib.decDigits ps.length) ++ 10 :: ((ps.map fun p => valueL p.1 p.2).flatten ++ t) := by
    unfold pairsL; rw [line2_len]; simp
  rw [e1, line_at sc _ _ (by simp [hd.1]), (word_at _ _ (by decide) _ _).1, (word_at _ _ (by decide) _ _).2]
  exact each_line RS.pair (fun p : List UInt8 × List UInt8 => valueL p.1 p.2) ps t hn fun x hx t => by
    obtain ⟨k, v⟩ := x
    exact pair_at k v t (h k v hx).1 (h k v hx).2
/-- A text that is a score, of bytes that stand in a word. -/
structure IsSc (sc : List UInt8 → Bool) (T : List UInt8) : Prop where
  ok : sc T = true
  chr : ∀ c ∈ T, 33 ≤ c.toNat ∧ c.toNat ≤ 126
theorem IsSc.no {sc : List UInt8 → Bool} {T : List UInt8} (h : IsSc sc T) : (10 : UInt8) ∉ T ∧ (32 : UInt8) ∉ T :=
  ⟨fun k => by have := (h.chr _ k).1; revert this; decide, fun k => by have := (h.chr _ k).1; revert this; decide⟩
theorem scores_at {sc : List UInt8 → Bool} {T : List UInt8} (h : IsSc sc T) (t : List UInt8) : RS.scores sc 1 ⟨t, false⟩ ⟨T, true, false⟩ = ⟨t, false⟩ := by
  show RS.done ⟨t, false⟩ (WS.score sc ⟨T, true, false⟩) = _
  unfold WS.score
  rw [(word_last _ h.no.2 _ _).1, (word_last _ h.no.2 _ _).2, h.ok]
  rfl
theorem ans_score {sc : List UInt8 → Bool} {T : List UInt8} (h : IsSc sc T) : IsAns sc (scoreL T) := by
  refine ⟨by simp [scoreL], fun t => ?_⟩
  have e1 : scoreL T ++ t = ([83,67,79,82,69] ++ 32 :: T) ++ 10 :: t := by simp [scoreL]
  rw [e1, line_at sc _ _ (by simp [h.no.1]), (word_at _ _ (by decide) _ _).1, (word_at _ _ (by decide) _ _).2]
  exact scores_at h t
theorem member_at {sc : List UInt8 → Bool} {T : List UInt8} (h : IsSc sc T) (k t : List UInt8) (hk : isN k = true) : RS.member sc ⟨lineL [k, T] ++ t, false⟩ = ⟨t, false⟩ := by
  have hkc : (10 : UInt8) ∉ k ∧ (32 : UInt8) ∉ k := by
    simp only [isN, Bool.and_eq_true, List.all_eq_true, decide_eq_true_eq] at hk
    exact ⟨fun h => by have := (hk.2 _ h).1; revert this; decide, fun h => by have := (hk.2 _ h).1; revert this; decide⟩
  have e1 : lineL [k, T] ++ t = (k ++ 32 :: T) ++ 10 :: t := by rw [line2_len]; simp
  unfold RS.member RS.line RS.words
  rw [e1, cut_some (by simp [h.no.1, hkc.1])]
  show RS.scores sc 1 ⟨t, false⟩ (WS.name ⟨k ++ 32 :: T, true, false⟩) = _
  unfold WS.name
  rw [(word_at _ _ hkc.2 _ _).1, (word_at _ _ hkc.2 _ _).2, hk]
  exact scores_at h t
theorem ans_scored {sc : List UInt8 → Bool} (ms : List Mb) (hn : ms.length ≤ 999999999) (h : ∀ m ∈ ms, isN m.name = true ∧ IsSc sc m.text) : IsAns sc (scoredL ms) := by
  have hd := dec_no ms.length
  refine ⟨by unfold scoredL; rw [line2_len]; simp, fun t => ?_⟩
  have e1 : scoredL ms ++ t = ([83,67,79,82,69,68] ++ 32 :: Lib.decDigits ms.length) ++ 10 :: ((ms.map fun m => lineL [m.name, m.text]).flatten ++ t) := by
    unfold scoredL; rw [line2_len]; simp
  rw [e1, line_at sc _ _ (by simp [hd.1]), (word_at _ _ (by decide) _ _).1, (word_at _ _ (by decide) _ _).2]
  exact each_line (RS.member sc) (fun m : Mb => lineL [m.name, m.text]) ms t hn fun m hm t => member_at (h m hm).2 _ t (h m hm).1
end Go.Proofs.YticflknfkaoejaaGreatDoor
