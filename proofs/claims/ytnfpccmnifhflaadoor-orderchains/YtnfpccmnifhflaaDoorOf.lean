/- order: Take. -/
import Derived.Test.YtnfpccmnifhflaaDoorOc
import Derived.Deep.RegionHeld
namespace Go.Proofs.YtnfpccmnifhflaaDoor
open Go.RowKit

/-- What Take tells. -/
def tkV (t : Tk) : Array Value := #[.string (bs t.s), .string (bs t.r), .int .i64 (t.e : Nat)]
theorem tk_err (acc : List UInt8) (l : List UInt8) (t : Tk) (e : Nat) (h : t = Tk.app acc (tk l)) (hl : tk l = ⟨e, [], []⟩) (he : e ≠ 0) : tkV t = #[.string (bs []), .string (bs []), .int .i64 (e : Nat)] := by
  rw [h, hl, Tk.app, if_neg he]; rfl
theorem drop_at (l : List UInt8) (k : Nat) (c : UInt8) (h : l[k]? = some c) : l.drop k = c :: l.drop (k + 1) := by
  obtain ⟨h1, h2⟩ := List.getElem?_eq_some_iff.1 h
  rw [List.drop_eq_getElem_cons h1, h2]

theorem tk_norm : ∀ l : List UInt8, Tk.app [] (tk l) = tk l
  | [] => by rw [tk_nil]; rfl
  | [c] => by
    unfold tk
    split
    · rfl
    · rw [Tk.app_app]; rfl
  | c :: d :: l => by
    unfold tk
    split
    · split
      · rw [Tk.app_app]; rfl
      · split <;> rfl
    · rw [Tk.app_app]; rfl
theorem tk_done (acc : List UInt8) (l r : List UInt8) (t : Tk) (h : t = Tk.app acc (tk l)) (hl : tk l = ⟨0, [], r⟩) : tkV t = #[.string (bs acc), .string (bs r), .int .i64 0] := by
  rw [h, hl, Tk.app, if_pos rfl, List.append_nil]; rfl
set_option maxRecDepth 100000 in
set_option maxHeartbeats 2000000 in
theorem take_ok (l : List UInt8) (hl : l.length ≤ 10000000) (w : World) : Calls Tryd.prog 11 #[.string (bs l)] w fun e w' => e = .returned (.tuple (tkV (tk l))) ∧ Below w.heap.size w w' := by
  have hsz := bs_size l
  obtain ⟨T, hT⟩ : ∃ T, tk l = T := ⟨_, rfl⟩
  rw [hT]
  have HT := hide hT
  have HL := hide hl
  clear hl hT
  go_enter Tryd.func11, Tryd.ntmps11
  go_wp2_with fail
  go_loopw [5, 6] (fun v i wr => ∃ (k : Nat) (acc : List UInt8), i = .int .i64 (k : Nat) ∧ Hid (k ≤ l.length ∧ acc.length ≤ k ∧ T = Tk.app acc (tk (l.drop k)) ∧ OwnL .u8 5 wr w.heap.size v (acc.map UInt8.toNat) ∧ Below w.heap.size w wr)) (fun _ i _ => l.length - (RowKit.intOf i).toNat)
  case atStart =>
    refine ⟨0, [], rfl, hide ⟨Nat.zero_le _, Nat.zero_le _, ?_, OwnL.nil _ _ _ _, Below.refl _ _⟩⟩
    rw [← unhide HT, List.drop_zero, tk_norm]
  case round =>
    obtain ⟨k, acc, rfl, HI⟩ := hrel
    obtain ⟨hk, ha, hT, hO, hB⟩ := unhide HI
    have hl := unhide HL
    have HO := hide hO
    have HB := hide hB
    have HA := hide ha
    have hbs : w.heap.size ≤ wr.heap.size := hB.size
    clear HI hO hB
    by_cases hend : k = l.length
    · have he : ((k : Int) == (l.length : Int)) = true := by simp [hend]
      have HV := hide (tk_err acc (l.drop k) T 4 hT (by rw [hend, List.drop_length, tk_nil]) (by decide))
      clear hT hend
      go_wp2
      go_ret3
      exact ⟨by rw [unhide HV]; rfl, unhide HB⟩
    · have he : ((k : Int) == (l.length : Int)) = false := by simp; omega
      obtain ⟨c, hc⟩ : ∃ c, l[k]? = some c := ⟨_, List.getElem?_eq_getElem (by omega)⟩
      have hix := bs_ix l k c hc
      have hd := drop_at l k c hc
      have hlen : (acc.map UInt8.toNat).length + 1 ≤ 100000000 := by rw [List.length_map]; have := unhide HA; omega
      by_cases h0 : c = 0
      · subst h0
        have h0' : ((((0 : UInt8).toNat : Nat) : Int) == 0) = true := rfl
        have hix0 : ∀ w, (Instr.index 9 (.string (bs l)) (.int .i64 (k : Int))).run Tryd.prog w = .ok (.int .u8 0) w := hix
        clear hix
        by_cases hlast : k + 1 = l.length
        · have hl2 : ((k : Int) + 1 == (l.length : Int)) = true := by simp; omega
          have HV := hide (tk_err acc (l.drop k) T 4 hT (by rw [hd, hlast, List.drop_length, tk_zero]) (by decide))
          clear hT hd hc
          go_wp2
          go_ret3
          exact ⟨by rw [unhide HV]; rfl, unhide HB⟩
        · have hl2 : ((k : Int) + 1 == (l.length : Int)) = false := by simp; omega
          obtain ⟨d, hdd⟩ : ∃ d, l[k + 1]? = some d := ⟨_, List.getElem?_eq_getElem (by omega)⟩
          have hix1 : ∀ w, (Instr.index 9 (.string (bs l)) (.int .i64 ((k : Int) + 1))).run Tryd.prog w = .ok (.int .u8 ((d.toNat : Nat) : Int)) w := bs_ix l (k + 1) d hdd
          have hd1 := drop_at l (k + 1) d hdd
          rw [hd1] at hd
          by_cases h5 : d = 255
          · subst h5
            have hix2 : ∀ w, (Instr.index 9 (.string (bs l)) (.int .i64 ((k : Int) + 1))).run Tryd.prog w = .ok (.int .u8 255) w := hix1
            clear hix1
            have HT2 := hide (show T = Tk.app (acc ++ [0]) (tk (l.drop (k + 2))) by rw [hT, hd, tk_byte, Tk.app_app])
            have HM := hide (show (acc.map UInt8.toNat) ++ [0] = (acc ++ [0]).map UInt8.toNat by simp)
            clear hT hd hd1 hc hdd
            generalize acc.map UInt8.toNat = L at *
            go_wp2_with (at_builtin; refine append_u8 wr rfl (.tmp 37) (.tmp 38) rfl w.heap.size _ L 0 rfl (unhide HO) rfl hlen hbs ?_)
            intro v' w2 hP
            have HO2 := hide hP.own
            have HB2 := hide ((unhide HB).trans hP.bel)
            clear hP HO HB
            go_wp2
            go_roundw
            case rel => exact ⟨k + 2, acc ++ [0], by go_num, hide ⟨by omega, by have := unhide HA; simp; omega, unhide HT2, by rw [← unhide HM]; exact unhide HO2, unhide HB2⟩⟩
            case measure => simp [RowKit.intOf]; omega
          · have h5' : (((d.toNat : Nat) : Int) == 255) = false := by
              have : d.toNat ≠ 255 := fun e => h5 (UInt8.toNat_inj.1 e)
              simp; omega
            by_cases h1 : d = 1
            · subst h1
              have hix2 : ∀ w, (Instr.index 9 (.string (bs l)) (.int .i64 ((k : Int) + 1))).run Tryd.prog w = .ok (.int .u8 1) w := hix1
              clear hix1
              have HV := hide (tk_done acc (l.drop k) (l.drop (k + 2)) T hT (by rw [hd, tk_end]))
              have hfr : ∀ w, (Instr.slice 9 (.string (bs l)) (some (.int .i64 ((k : Int) + 2))) none none).run Tryd.prog w = .ok (.string (bs (l.drop (k + 2)))) w := bs_from l (k + 2) .i64 (by omega)
              have hk2 : (k : Int) + 2 ≤ (l.length : Int) := by omega
              have hk3 : (0 : Int) ≤ (k : Int) + 2 := by omega
              have htn : ((k : Int) + 2).toNat = k + 2 := by omega
              have hwk : IntKind.i64.wrap ((k : Int) + 2) = (k : Int) + 2 := by rw [IntKind.wrap_i64]; omega
              have hex : (bs l).extract (k + 2) l.length = bs (l.drop (k + 2)) := by rw [bs_extract, List.take_length]
              have hC := clone_ok (l.drop (k + 2)) (by rw [List.length_drop]; omega)
              clear hT hd hd1 hc hdd h5'
              generalize l.drop (k + 2) = r at *
              have hcv := conv_own wr w.heap.size _ acc (unhide HO)
              go_wp2_with fail
              have hcd := conv_own wr.drew w.heap.size _ acc (OwnL.drewN (unhide HO) 1)
              have HBd := hide ((unhide HB).drew)
              refine wp_region_held_drew (S := fun w' => (convert 52 9 u5).run Tryd.prog w' = .ok (.string (bs acc)) w') (by kernel_rfl) hcd (fun hHeld => ?_)
              refine take_l 0 (v := ?_) rfl (by kernel_rfl) (by kernel_rfl) (by kernel_rfl) (fun _ _ _ h => h) (Or.inl ⟨by rfl, ?_⟩) hHeld ?_
              rotate_left
              · (intro w hSw; (try dsimp only at hSw); go_simp; (try with_reducible rfl))
              simp only [Act.put, List.setIfInBounds_toArray, List.set_cons_zero, List.set_cons_succ]
              refine take_l 1 (v := .string (bs acc)) rfl (by kernel_rfl) (by kernel_rfl) (by kernel_rfl) (fun _ _ _ h => h) (Or.inl ⟨by rfl, ?_⟩) hHeld ?_
              · (intro w hSw; (try dsimp only at hSw); go_simp; (try with_reducible rfl))
              simp only [Act.put, List.setIfInBounds_toArray, List.set_cons_zero, List.set_cons_succ]
              refine take_l 2 (v := ?_) rfl (by kernel_rfl) (by kernel_rfl) (by kernel_rfl) (fun _ _ _ h => h) (Or.inl ⟨by rfl, ?_⟩) hHeld ?_
              rotate_left
              · (intro w hSw; (try dsimp only at hSw); go_simp; (try with_reducible rfl))
              simp only [Act.put, List.setIfInBounds_toArray, List.set_cons_zero, List.set_cons_succ]
              refine take_l 3 (v := ?_) rfl (by kernel_rfl) (by kernel_rfl) (by kernel_rfl) (fun _ _ _ h => h) (Or.inl ⟨by rfl, ?_⟩) hHeld ?_
              rotate_left
              · (intro w hSw; (try dsimp only at hSw); go_simp; (try with_reducible rfl))
              simp only [Act.put, List.setIfInBounds_toArray, List.set_cons_zero, List.set_cons_succ]
              refine take_l 4 (v := ?_) rfl (by kernel_rfl) (by kernel_rfl) (by kernel_rfl) (fun _ _ _ h => h) (Or.inl ⟨by rfl, ?_⟩) hHeld ?_
              rotate_left
              · (intro w hSw; (try dsimp only at hSw); go_simp; (try with_reducible rfl))
              simp only [Act.put, List.setIfInBounds_toArray, List.set_cons_zero, List.set_cons_succ]
              refine take_l 5 (v := .string (bs r)) rfl (by kernel_rfl) (by kernel_rfl) (by kernel_rfl) (fun _ _ _ h => h) (Or.inl ⟨by rfl, ?_⟩) hHeld ?_
              · (intro w hSw; have h2 := hfr w; go_simp; first | done | (rw [if_pos ⟨hk3, hk2⟩, htn, hex]))
              simp only [Act.put, List.setIfInBounds_toArray, List.set_cons_zero, List.set_cons_succ]
              refine wpAnyH_ready (rs := [6]) (by kernel_rfl) (by simp) ?_
              refine AllReadyH.cons rfl (fun K hK => ?_) AllReadyH.nil
              go_simp
              go_wp2_with fail
              refine (hC _).mono ?_
              rintro e w2 ⟨rfl, hB2⟩
              have hcv2 := conv_own w2 w.heap.size _ acc ((OwnL.drewN (unhide HO) 1).below hB2 (Nat.le_refl _))
              refine hK.out _ _ hcv2 (fun _ => ?_)
              clear hK K
              refine wpAnyH_ready (rs := [7]) (by kernel_rfl) (by simp) ?_
              refine AllReadyH.cons rfl (fun K hK => ?_) AllReadyH.nil
              go_simp
              refine hK.out _ _ hcv2 (fun _ => ?_)
              clear hK K
              refine wpAnyH_ready (rs := [8]) (by kernel_rfl) (by simp) ?_
              refine AllReadyH.cons rfl (fun K hK => ?_) AllReadyH.nil
              go_simp
              refine hK.out _ _ hcv2 (fun _ => ?_)
              clear hK K
              refine wpAnyH_ready (rs := [9]) (by kernel_rfl) (by simp) ?_
              refine AllReadyH.cons rfl (fun K hK => ?_) AllReadyH.nil
              go_simp
              refine hK.out _ _ hcv2 (fun _ => ?_)
              clear hK K
              refine wpAnyH_done (by kernel_rfl) ?_ _
              go_wp2_with fail
              go_ret3
              exact ⟨by rw [unhide HV]; rfl, Below.up (unhide HBd) hB2 (unhide HBd).size⟩
            · have h1' : (((d.toNat : Nat) : Int) == 1) = false := by
                have : d.toNat ≠ 1 := fun e => h1 (UInt8.toNat_inj.1 e)
                simp; omega
              have HV := hide (tk_err acc (l.drop k) T 3 hT (by rw [hd, tk_bad d _ h5 h1]) (by decide))
              clear hT hd hd1 hc hdd
              generalize d.toNat = z at *
              go_wp2
              go_ret3
              exact ⟨by rw [unhide HV]; rfl, unhide HB⟩
      · have h0' : (((c.toNat : Nat) : Int) == 0) = false := by
          have : c.toNat ≠ 0 := fun e => h0 (UInt8.toNat_inj.1 e)
          simp; omega
        have HT2 := hide (show T = Tk.app (acc ++ [c]) (tk (l.drop (k + 1))) by rw [hT, hd, tk_cons c _ h0, Tk.app_app])
        have HM := hide (show (acc.map UInt8.toNat) ++ [c.toNat] = (acc ++ [c]).map UInt8.toNat by simp)
        clear hT hd hc h0
        generalize acc.map UInt8.toNat = L at *
        generalize c.toNat = y at *
        go_wp2_with (at_builtin; refine append_u8 wr rfl (.tmp 19) (.tmp 23) rfl w.heap.size _ L y rfl (unhide HO) rfl hlen hbs ?_)
        intro v' w2 hP
        have HO2 := hide hP.own
        have HB2 := hide ((unhide HB).trans hP.bel)
        clear hP HO HB
        go_wp2
        go_roundw
        case rel => exact ⟨k + 1, acc ++ [c], by go_num, hide ⟨by omega, by have := unhide HA; simp; omega, unhide HT2, by rw [← unhide HM]; exact unhide HO2, unhide HB2⟩⟩
        case measure => simp [RowKit.intOf]; omega
end Go.Proofs.YtnfpccmnifhflaaDoor
