/- ReplyJunk: any bytes are parted into answers, or refused. -/
import Derived.Test.YticflknfkaoejaaGreatDoorRm
namespace Go.Proofs.YticflknfkaoejaaGreatDoor
open Go.RowKit

theorem Txt.rd {w : World} {lo : Nat} {v : Value} {l : List (List UInt8)} (h : Txt w lo v l) : ∃ p c, v = .slice p l.length c ∧ ∀ i x, l[i]? = some x → ∃ g, p = some ⟨g, 0, none⟩ ∧ w.cell? ⟨g, i, none⟩ = some (sv x) := by
  rcases h.form with ⟨rfl, rfl⟩ | ⟨g, cap, rfl, _, _, _, hc⟩
  · exact ⟨none, 0, rfl, fun i x hx => by simp at hx⟩
  · exact ⟨some ⟨g, 0, none⟩, cap, rfl, fun i x hx => ⟨g, rfl, hc i x hx⟩⟩

set_option maxRecDepth 100000 in
set_option maxHeartbeats 4000000 in
theorem junk_ok (l : List UInt8) (hl : l.length ≤ 9223372036854775807) {W : World} (hK : Kn W W) : Calls Tryz.prog 6 #[.string (bs l)] W fun e w' => e = .returned (.bool true) ∧ Below W.heap.size W w' := by
  obtain ⟨sc, hsc⟩ := scs
  have HK := hide hK
  have hsz := bs_size l
  by_cases h0 : 2000 < l.length
  · have h0' : ((2000 : Int) < l.length) = True := by simp; omega
    have HA := hide (awake_ok hK)
    clear h0 hK
    go_enter Tryz.func6, Tryz.ntmps6
    go_wp2_with fail
    refine (unhide HA).mono ?_
    rintro e w1 ⟨rfl, s1⟩
    have S1 := hide s1
    clear s1 HA
    go_wp2
    go_ret
    exact ⟨rfl, (unhide S1).below (Nat.le_refl _) fun _ x => x.elim⟩
  · have h0' : ((2000 : Int) < l.length) = False := by simp; omega
    have HP := hide (parse_ok hsc l (by omega) hK)
    have HL := hide (show l.length ≤ 2000 by omega)
    clear h0 hK hl
    obtain ⟨o, ho⟩ : ∃ o, ansL sc l = o := ⟨_, rfl⟩
    rw [ho] at HP
    have HO := hide ho
    clear ho
    go_enter Tryz.func6, Tryz.ntmps6
    go_wp2_with fail
    refine (unhide HP).mono ?_
    rintro e w1 ⟨hp, s1⟩
    have S1 := hide s1
    have HA := hide (fun w2 (f : Still W w2) => awake_ok ((unhide HK).still f))
    clear s1 HP
    rcases o with _ | a
    · obtain rfl : e = .returned (.tuple #[.slice none 0 0, iv 3]) := hp
      have hne : (bs l).toList.isEmpty = false := by
        rw [bs_list]
        rcases l with _ | ⟨c, l⟩
        · have := unhide HO; rw [parts_nil] at this; cases this
        · rfl
      go_wp2_with fail
      refine (unhide HA _ (unhide S1)).mono ?_
      rintro e w2 ⟨rfl, s2⟩
      have S2 := hide ((unhide S1).trans s2)
      clear s2 HA
      go_wp2
      go_ret
      exact ⟨rfl, (unhide S2).below (Nat.le_refl _) fun _ x => x.elim⟩
    · obtain ⟨v, rfl, ht⟩ := hp
      obtain ⟨h1, h2⟩ := parts_some l.length l a (Nat.le_refl _) (unhide HO)
      obtain ⟨p, c, rfl, hc⟩ := ht.rd
      have HC := hide (And.intro h1 (And.intro h2 hc))
      clear h1 h2 hc ht
      go_wp2_with fail
      go_loopw [5, 6] (fun s i wr => ∃ k : Nat, i = iv k ∧ s = sv (a.take k).flatten ∧ Hid (k ≤ a.length ∧ Still w1 wr)) (fun _ i _ => a.length - (RowKit.intOf i).toNat)
      case atStart => exact ⟨0, rfl, rfl, hide ⟨Nat.zero_le _, Fr.refl _ _⟩⟩
      case round =>
        obtain ⟨k, rfl, rfl, HI⟩ := hrel
        by_cases hlt : k < a.length
        · have hlt' : ((k : Int) < a.length) = True := by simp; omega
          obtain ⟨x, hx⟩ : ∃ x, a[k]? = some x := ⟨_, List.getElem?_eq_getElem hlt⟩
          obtain ⟨g, rfl, hcell⟩ := (unhide HC).2.2 k x hx
          have cx : wr.cell? ⟨g, k, none⟩ = some (sv x) := (unhide HI).2.cell' hcell fun y => y
          have hans := (unhide HC).2.1 x (List.mem_of_getElem? hx)
          have hxl : x.length + (a.take k).flatten.length ≤ 2000 := by
            have h3 : (a.take (k + 1)).flatten.length ≤ a.flatten.length := by
              conv => rhs; rw [← List.take_append_drop (k + 1) a]
              rw [List.flatten_append, List.length_append]; omega
            rw [List.take_add_one, hx, List.flatten_append, List.length_append] at h3
            have h4 := unhide HL
            rw [(unhide HC).1] at h3
            simp only [Option.toList_some, List.flatten_cons, List.flatten_nil, List.append_nil] at h3
            omega
          have hkb : k < 1000000 := by
            have h5 : ∀ (L : List (List UInt8)), (∀ p ∈ L, p ≠ []) → L.length ≤ L.flatten.length := by
              intro L
              induction L with
              | nil => simp
              | cons y L ih =>
                intro hL
                have := ih fun p hp => hL p (by simp [hp])
                have hy : 0 < y.length := List.length_pos_iff.2 (hL y (by simp))
                simp only [List.length_cons, List.flatten_cons, List.length_append]; omega
            have h6 := h5 a fun p hp => ((unhide HC).2.1 p hp).1
            rw [(unhide HC).1] at h6
            have := unhide HL
            omega
          have hPx := parse_ok hsc x (by omega) ((unhide HK).still ((unhide S1).trans (unhide HI).2))
          rw [hans.one] at hPx
          have HPx := hide hPx
          have hxe : (bs x).toList.isEmpty = false := by rw [bs_list]; simpa using hans.1
          have hadd := fun w => bs_add (a.take k).flatten x (by omega) w
          have hnew : (a.take (k + 1)).flatten = (a.take k).flatten ++ x := by rw [List.take_add_one, hx, List.flatten_append]; simp
          have HN := hide (And.intro hnew hlt)
          clear hlt hPx hcell hans hxl hnew hx
          go_wp2_with fail
          refine (unhide HPx).mono ?_
          rintro e w2 ⟨⟨v2, rfl, t2⟩, s2⟩
          obtain ⟨p2, c2, rfl, -⟩ := t2.rd
          have c4 : w2.cell? ⟨g, k, none⟩ = some (sv x) := s2.cell' cx fun y => y
          have S2 := hide ((unhide HI).2.trans s2)
          clear s2 t2 HPx cx
          go_wp2
          exact ⟨⟨k + 1, by go_num, by rw [(unhide HN).1], hide ⟨by have := (unhide HN).2; omega, unhide S2⟩⟩, by have := (unhide HN).2; simp [RowKit.intOf]; omega⟩
        · have hlt' : ((k : Int) < a.length) = False := by simp; omega
          have hall : (a.take k).flatten = l := by rw [List.take_of_length_le (by omega)]; exact (unhide HC).1
          have hq : ((bs (a.take k).flatten).toList == (bs l).toList) = true := by rw [hall]; simp
          have HA2 := hide (unhide HA wr ((unhide S1).trans (unhide HI).2))
          clear hlt hall
          go_wp2_with fail
          refine (unhide HA2).mono ?_
          rintro e w2 ⟨rfl, s2⟩
          have S2 := hide (((unhide S1).trans (unhide HI).2).trans s2)
          clear s2 HA
          go_wp2
          go_ret
          exact ⟨rfl, (unhide S2).below (Nat.le_refl _) fun _ x => x.elim⟩
end Go.Proofs.YticflknfkaoejaaGreatDoor
