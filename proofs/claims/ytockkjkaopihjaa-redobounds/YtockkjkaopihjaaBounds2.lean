/- RedoBounds: the walk where all is well. -/
import Derived.Test.YtockkjkaopihjaaBounds0
namespace Go.Proofs.Ytockkjkaopihjaa
open Go.RowKit

set_option maxRecDepth 100000 in
set_option maxHeartbeats 2000000 in
theorem bounds_more (at_ : Nat) (ws : Nat) (n : Int) (w : World) (h8 : at_ % 8 = 0) (h0 : 0 < at_) (h16 : 16 ≤ ws) (hw : at_ + ws ≤ 256) (h240 : ws ≤ 240) :
    Calls Try.prog 8 #[.int .i64 at_, .int .i64 ws, .int .i64 n] w fun e w' => e = .returned (.bool true) ∧ Below w.heap.size w w' := by
  have HN := hide (new_256 w)
  have e8 : ((at_ : Int) % 8 == 0) = true := by simp; omega
  have e0 : ((at_ : Int) == 0) = false := by simp; omega
  have m7 := mask_i64 n 127 (by omega)
  have hml := msk_le n 127
  generalize msk n 127 = nn at *
  have m8 : bits .and .i64 n 127 = (nn : Int) := m7
  clear m7
  go_enter Try.func8, Try.ntmps8
  go_wp2_with fail
  refine (unhide HN).mono ?_
  clear HN
  rintro e w1 ⟨rfl, L, d1, f1, n1⟩
  have O1 := open_fresh d1 rfl at_ ws (by omega) h16 (by show at_ + ws ≤ 32 * 8; omega) rfl
  have H1 := hide O1; have HF1 := hide f1; have HD1 := hide d1; have HN1 := hide n1
  clear O1 d1 f1 n1
  go_wp2_with fail
  refine (unhide H1).mono ?_
  clear H1
  rintro e w2 ⟨rfl, hh⟩
  have fr2 : Fr (fun _ => False) w1 w2 := hh ▸ (Fr.refl _ w1).alloc _
  have lg2 : LogAt w2 w1.heap.size (w.heap.size + 3) at_ ws := hh ▸ log_new _ _ _ _
  have H2 := hide (open_nil at_ ws w2); have HF2 := hide fr2; have HL2 := hide lg2
  clear hh fr2 lg2
  go_wp2_with fail
  refine (unhide H2).mono ?_
  rintro e w2' ⟨rfl, hh⟩
  replace hh := hh.symm
  subst hh
  clear H2
  go_wp2_with fail
  go_loopw [16, 17] (fun v i wr => ∃ k : Nat, k ≤ nn ∧ i = .int .i64 k ∧ wr.ownsRow w2.heap.size 32 2 v k (wcells (ones 0 k)) ∧ Fr (fun _ => False) w2 wr) (fun v i wr => nn - (intOf i).toNat)
  case atStart => exact ⟨0, Nat.zero_le _, rfl, by simpa [ones, wcells] using World.ownsRow_nil w2 w2.heap.size 32 2, Fr.refl _ _⟩
  case round =>
    obtain ⟨k, hk, rfl, hrow, hfr⟩ := hrel
    by_cases hlt : k < nn
    · have hi := info_wr
      obtain ⟨i0, hi0⟩ : ∃ i, Try.prog.info? 32 = some i := by
        cases h : Try.prog.info? 32 with
        | none => rw [h] at hi; simp at hi
        | some i => exact ⟨i, rfl⟩
      rw [hi0] at hi
      simp only [Option.map_some, Option.some.injEq, Prod.mk.injEq] at hi
      have sz := hfr.size
      have wk : IntKind.u64.wrap ((k : Int) + 1) = (k : Int) + 1 := (wrap_small _ (by omega) (by omega)).2
      have HI := hide (And.intro hi0 hi); have HR := hide hrow; have HFR := hide hfr
      clear hi0 hi hrow hfr
      go_wp2_with (at_builtin; refine wpList_append_own_at _ rfl _ _ 30 rfl w2.heap.size 32 i0 (.agg #[.int .i64 0, .int .u64 0]) 2 16 Try.underlying30 (unhide HI).1 (unhide HI).2.1 (unhide HI).2.2.1 (unhide HI).2.2.2 rfl (by decide) _ k (wcells (ones 0 k)) rfl ((unhide HR).alloc _) _ 1 1 [.int .i64 0, u64 ((k : Int) + 1)] rfl rfl ?c1 ?c2 ?c3 ?c4 ?c5 ?_)
      case c1 => exact pair_news _ _ _ _
      case c2 => intro u hu; simp at hu; rcases hu with rfl | rfl <;> rfl
      case c3 => unfold maxLen; omega
      case c4 => omega
      case c5 => simp; omega
      intro v' w6 hown hgrow _ hloc
      have fr6 : Fr (fun _ => False) w2 w6 := ((unhide HFR).alloc _).grown hgrow (fun j e => .inr ((unhide HR).lt j e).1)
      have rw6 : w6.ownsRow w2.heap.size 32 2 v' (k + 1) (wcells (ones 0 (k + 1))) := by rw [ones_succ, wcells_app]; exact hown
      have H6 := hide (And.intro rw6 fr6)
      clear hown hgrow hloc fr6 rw6
      go_wp2
      exact ⟨⟨k + 1, by omega, by go_num, (unhide H6).1, (unhide H6).2⟩, by simp [intOf]; omega⟩
    · obtain rfl : k = nn := by omega
      have dr := ((unhide HD1).keptF (unhide HF2)).keptF hfr
      have lr := (unhide HL2).kept hfr (fun h => h)
      have nlg : ¬ foot (w.heap.size + 3) L w1.heap.size := fun hf => by have := (unhide HD1).lt _ hf; omega
      have M := most_ok lr h16 (by omega)
      have out : outside 32 at_ 0 (at_ + ws) := ⟨by omega, by omega, by omega⟩
      have wk : IntKind.u64.wrap (k : Int) = k := (wrap_small _ (by omega) (by omega)).2
      have frw : Fr (fun _ => False) w wr := ((unhide HF1).trans (unhide HF2)).trans hfr
      have ltd : ∀ j, foot (w.heap.size + 3) L j → j < w2.heap.size := fun j hj => ((unhide HD1).keptF (unhide HF2)).lt j hj
      have HLT := hide ltd
      clear ltd
      have sz : w.heap.size ≤ w2.heap.size := ((unhide HF1).trans (unhide HF2)).size
      have HDR := hide dr; have HLR := hide lr; have HNG := hide nlg; have HM := hide M; have HOUT := hide out; have HFW := hide frw; have HROW := hide hrow; have HN2 := hide (unhide HN1)
      clear dr lr nlg M out frw hrow hfr HF1 HF2 HD1 HL2 HN1
      rcases (show (ws - 16) / 2 < k ∨ k = 0 ∨ (0 < k ∧ k ≤ (ws - 16) / 2) by omega) with hc | hc | ⟨hc0, hc⟩
      · -- too many
        obtain ⟨g', cap', rfl⟩ := owns_form (unhide HROW) (by omega)
        have C := commit_big (unhide HDR) (unhide HLR) g' 0 cap' (ones 0 k) (owns_wr (by rw [ones_len]; exact unhide HROW)) h16 (by omega) (by rw [ones_len]; omega) (by rw [ones_len]; omega) (fun i x hx => by rw [ones_mem (List.mem_of_getElem? hx)]; exact unhide HOUT)
        rw [ones_len] at C
        have HC := hide C
        clear C
        go_wp2_with fail
        refine (unhide HC).mono ?_
        clear HC
        rintro e w7 ⟨rfl, f7⟩
        have M7 := most_ok ((unhide HLR).kept f7 (fun h => h)) h16 (by omega)
        have LD := d_load ((unhide HDR).keptF f7) (fresh_calm 32 True) 0 (by omega)
        have HM7 := hide M7; have HLD := hide LD; have HF7 := hide f7; have HA := hide (awake_ok w7)
        clear M7 LD f7
        have mq : (((ws - 16 : Nat) : Int) / 2 == ((ws : Int) - 16) / 2) = true := by simp; omega
        go_wp2_with fail
        refine (unhide HM7).mono ?_
        rintro e w8 ⟨rfl, hh⟩
        replace hh := hh.symm
        subst hh
        go_wp2_with fail
        refine (unhide HLD).mono ?_
        rintro e w8 ⟨rfl, hh⟩
        replace hh := hh.symm
        subst hh
        go_wp2_with fail
        refine (unhide HA).mono ?_
        rintro e w8 ⟨rfl, f8⟩
        have HF8 := hide f8
        clear f8
        go_wp2
        go_ret
        exact ⟨rfl, (((unhide HFW).trans (unhide HF7)).trans (unhide HF8)).below (Nat.le_refl _) (fun _ h => h.elim)⟩
      · -- none
        subst hc
        obtain ⟨la, cap', hv⟩ : ∃ la cap', u16 = .slice la 0 cap' := by
          rcases (unhide HROW).2 with ⟨e, _⟩ | ⟨g, c, _, e, _⟩
          · exact ⟨_, _, e⟩
          · exact ⟨_, _, e⟩
        subst hv
        have C := commit_none (unhide HLR) h16 (by omega) la cap'
        have HC := hide C
        clear C
        go_wp2_with fail
        refine (unhide HC).mono ?_
        clear HC
        rintro e w7 ⟨rfl, hh⟩
        have f7 : Fr (fun _ => False) wr w7 := hh ▸ Fr.refl _ _
        have M7 := most_ok ((unhide HLR).kept f7 (fun h => h)) h16 (by omega)
        have LD := d_load ((unhide HDR).keptF f7) (fresh_calm 32 True) 0 (by omega)
        clear hh
        have HM7 := hide M7; have HLD := hide LD; have HF7 := hide f7; have HA := hide (awake_ok w7)
        clear M7 LD f7
        have mq : (((ws - 16 : Nat) : Int) / 2 == ((ws : Int) - 16) / 2) = true := by simp; omega
        go_wp2_with fail
        refine (unhide HM7).mono ?_
        rintro e w8 ⟨rfl, hh⟩
        replace hh := hh.symm
        subst hh
        go_wp2_with fail
        refine (unhide HLD).mono ?_
        rintro e w8 ⟨rfl, hh⟩
        replace hh := hh.symm
        subst hh
        go_wp2_with fail
        refine (unhide HA).mono ?_
        rintro e w8 ⟨rfl, f8⟩
        have HF8 := hide f8
        clear f8
        go_wp2
        go_ret
        exact ⟨rfl, (((unhide HFW).trans (unhide HF7)).trans (unhide HF8)).below (Nat.le_refl _) (fun _ h => h.elim)⟩
      · -- so many
        obtain ⟨g', cap', rfl⟩ := owns_form (unhide HROW) hc0
        have row : wr.ownsRow w2.heap.size 32 2 (.slice (some ⟨g', 0, none⟩) k cap') (ones 0 k).length (wcells (ones 0 k)) := by rw [ones_len]; exact unhide HROW
        have ngx : ¬ foot (w.heap.size + 3) L g' := fun hf => by
          have h1 := ((unhide HROW).lt g' rfl).1
          have h2 := unhide HLT _ hf
          omega
        have tk : Takes 32 at_ ws (ones 0 k) := ⟨by intro e; have := congrArg List.length e; rw [ones_len] at this; simp at this; omega, fun x hx => by rw [ones_mem hx]; exact unhide HOUT, by rw [ones_len]; omega, by omega⟩
        have C := commit_ok (unhide HDR) (unhide HLR) (unhide HNG) (fresh_calm 32 True) (clean0 at_ ws) g' 0 cap' (ones 0 k) (owns_wr row) ngx tk (by omega) (by omega) (by rw [ones_len]; omega)
        rw [ones_len] at C
        have HC := hide C
        clear C row ngx tk
        go_wp2_with fail
        refine (unhide HC).mono ?_
        clear HC
        rintro e w7 (⟨rfl, D⟩ | ⟨rfl, D⟩)
        rotate_left
        · obtain ⟨_, _, _, ⟨h, _⟩, _⟩ := D
          exact absurd trivial h
        obtain ⟨L7, A7, o7, f', c7, cl7⟩ := D.on
        have f7 : Fr (foot (w.heap.size + 3) L) wr w7 := o7.fr
        have M7 := most_ok ((unhide HLR).kept f7 (unhide HNG)) h16 (by omega)
        have LD := d_load o7.d c7 0 (by omega)
        have hv : f' 0 = k := (cl7.out 0 (by omega)).trans (ones_home 0 k hc0 _)
        rw [hv] at LD
        clear hv o7 c7 cl7 D
        have HM7 := hide M7; have HLD := hide LD; have HF7 := hide f7; have HA := hide (awake_ok w7)
        clear M7 LD f7
        have mq : (((ws - 16 : Nat) : Int) / 2 == ((ws : Int) - 16) / 2) = true := by simp; omega
        go_wp2_with fail
        refine (unhide HM7).mono ?_
        rintro e w8 ⟨rfl, hh⟩
        replace hh := hh.symm
        subst hh
        go_wp2_with fail
        refine (unhide HLD).mono ?_
        rintro e w8 ⟨rfl, hh⟩
        replace hh := hh.symm
        subst hh
        go_wp2_with fail
        refine (unhide HA).mono ?_
        rintro e w8 ⟨rfl, f8⟩
        have HF8 := hide f8
        clear f8
        go_wp2
        go_ret
        exact ⟨rfl, (((unhide HFW).trans' (unhide HF7) (fun j hj => .inr (unhide HN2 j hj))).trans (unhide HF8)).below (Nat.le_refl _) (fun _ h => h.elim)⟩
end Go.Proofs.Ytockkjkaopihjaa
