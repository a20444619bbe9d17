/- Numbers by sevens: number, Uvar; awake. -/
import Derived.Lib.SlBytesConst
import Derived.Laws.BytesArg
import Derived.Test.YtdmfooejjpppkaaOw
namespace Go.Proofs.Ytdmfooejjpppkaa
open Go.RowKit

/-- A number by sevens. -/
def uvN (x : Nat) : List Nat := if x < 128 then [x] else (x % 128 + 128) :: uvN (x / 128)
theorem uv_lo (x : Nat) (h : x < 128) : uvN x = [x] := by unfold uvN; rw [if_pos h]
theorem uv_hi (x : Nat) (h : ¬ x < 128) : uvN x = (x % 128 + 128) :: uvN (x / 128) := by rw [uvN, if_neg h]
theorem uv_len (n : Nat) : ∀ x, x < 128 ^ (n + 1) → (uvN x).length ≤ n + 1 := by
  induction n with
  | zero => intro x hx; rw [uv_lo x (by simpa using hx)]; simp
  | succ n ih =>
    intro x hx
    by_cases h : x < 128
    · rw [uv_lo x h]; simp
    · rw [uv_hi x h]
      have := ih (x / 128) (Nat.div_lt_of_lt_mul (by rw [Nat.pow_succ] at hx; omega))
      simp; omega
set_option maxRecDepth 100000 in
theorem or128 (x : Nat) : bits .or .u8 ((x : Int) % 256) 128 = ((x % 128 + 128 : Nat) : Int) := by
  have e : (x : Int) % 256 = ((x % 256 : Nat) : Int) := by omega
  rw [e, show (128 : Int) = ((128 : Nat) : Int) from rfl, u8_or_nat _ 128 (Nat.mod_lt _ (by decide)) (by decide)]
  have : ∀ y : Fin 256, y.val ||| 128 = y.val % 128 + 128 := by decide
  have h := this ⟨x % 256, Nat.mod_lt _ (by decide)⟩
  rw [show x % 256 ||| 128 = x % 256 % 128 + 128 from h]
  omega

set_option maxRecDepth 100000 in
set_option maxHeartbeats 2000000 in
theorem number_ok (v : Value) (l : List Nat) (x : Nat) (w : World) (base : Nat) (hbase : base ≤ w.heap.size) (hO : OwnL .u8 5 w base v l) (hl : l.length ≤ 900000) (hx : x < 18446744073709551616) :
    Calls Try.prog 18 #[v, .int .u64 x] w fun e w' => ∃ v', e = .returned v' ∧ More .u8 5 w base v' (l ++ uvN x) w' := by
  have HO := hide hO
  have HU := hide (uv_len 9 x (by omega))
  clear hO
  go_enter Try.func18, Try.ntmps18
  go_wp2
  go_loopw [0, 1] (fun v vx wr => ∃ (t : Nat) (l' : List Nat), vx = .int .u64 t ∧ t < 18446744073709551616 ∧ Hid (l' ++ uvN t = uvN x) ∧ Hid (OwnL .u8 5 wr base v (l ++ l')) ∧ Hid (Below base w wr)) (fun v vx wr => (RowKit.intOf vx).toNat)
  case atStart => exact ⟨x, [], rfl, hx, hide rfl, hide (by rw [List.append_nil]; exact unhide HO), hide (Below.refl _ _)⟩
  case round =>
    obtain ⟨t, l', rfl, ht, HT, HO1, HB⟩ := hrel
    by_cases h : t < 128
    · have h' : ¬ (128 : Int) ≤ t := by omega
      have hbs : base ≤ wr.heap.size := by have := (unhide HB).size; omega
      have e256 : (t : Int) % 256 = t := by omega
      go_wp2_with (at_builtin; refine append_u8 wr rfl (.tmp 15) (.tmp 18) rfl base _ (l ++ l') t rfl (unhide HO1) rfl ?len hbs ?_)
      case len =>
        have h1 := unhide HT; have h2 := unhide HU
        rw [← h1] at h2; simp at h2 ⊢; omega
      intro v' w2 hP
      have HP := hide hP
      clear hP
      go_wp2
      go_ret
      refine ⟨_, rfl, ?_, (unhide HB).trans (unhide HP).bel⟩
      rw [← unhide HT, uv_lo t h]; exact (unhide HP).own
    · have h' : (128 : Int) ≤ t := by omega
      have hbs : base ≤ wr.heap.size := by have := (unhide HB).size; omega
      have E := or128 t
      generalize hy : t % 128 + 128 = y at *
      have HY := hide hy
      clear hy
      go_wp2_with (at_builtin; refine append_u8 wr rfl (.tmp 7) (.tmp 11) rfl base _ (l ++ l') y rfl (unhide HO1) rfl ?len hbs ?_)
      case len =>
        have h1 := unhide HT; have h2 := unhide HU
        rw [← h1] at h2; simp at h2 ⊢; omega
      intro v' w2 hP
      have HP := hide hP
      clear hP
      go_wp2
      go_roundw
      case rel =>
        refine ⟨t / 128, l' ++ [y], by simp, by omega, hide ?_, hide ?_, hide ((unhide HB).trans (unhide HP).bel)⟩
        · rw [← unhide HT, uv_hi t h, unhide HY]; simp
        · exact (unhide HP).own
      case measure => simp [RowKit.intOf]; omega
theorem uvar_ok (x : Nat) (w : World) (hx : x < 18446744073709551616) :
    Calls Try.prog 17 #[.int .u64 x] w fun e w' => ∃ v', e = .returned v' ∧ More .u8 5 w w.heap.size v' (uvN x) w' := by
  have K := hide (number_ok (.slice none 0 0) [] x w w.heap.size (Nat.le_refl _) (OwnL.nil _ _ _ _) (by simp) hx)
  go_enter Try.func17, Try.ntmps17
  go_wp2_with fail
  refine (unhide K).mono ?_
  rintro e w' ⟨v, rfl, hM⟩
  have HM := hide hM
  clear hM
  go_wp2
  go_ret
  exact ⟨_, rfl, unhide HM⟩

theorem need9 (w : World) : Calls Try.prog 15 #[.int .i64 9] w fun e w' => e = .returned (.int .i64 3) ∧ w' = w := need_ok 9 (by decide) w
theorem str_own {w : World} {base : Nat} {v : Value} (h : OwnL .u8 5 w base v [172, 2]) : ∃ g cap, v = .slice (some ⟨g, 0, none⟩) 2 cap ∧ w.cell? ⟨g, 0, none⟩ = some (.int .u8 172) ∧ w.cell? ⟨g, 1, none⟩ = some (.int .u8 2) := by
  rcases h.form with ⟨_, h0⟩ | ⟨g, cap, hv, _, _, _, hc, _⟩
  · cases h0
  · exact ⟨g, cap, hv, hc 0 (by decide), hc 1 (by decide)⟩
theorem pack_ab (b : Nat → Nat) (h0 : b 0 = 97) (h1 : b 1 = 98) : packF b 2 0 = 2 ∧ packF b 2 1 = 25185 := by
  refine ⟨rfl, ?_⟩
  show wordN b 2 0 = _
  simp [wordN, h0, h1]
theorem awake_pack (w : World) : Calls Try.prog 6 #[.slice (some ⟨w.heap.size, 0, none⟩) 2 2] (w.alloc (.cells #[.int .u8 97, .int .u8 98] 5 (2, 3))) fun e w' =>
    ∃ g, e = .returned (.slice (some ⟨g, 0, none⟩) 2 2) ∧ w'.cell? ⟨g, 0, none⟩ = some (.int .u64 2) ∧ w'.cell? ⟨g, 1, none⟩ = some (.int .u64 25185) ∧ Below w.heap.size w w' := by
  refine (pack_ok (some ⟨w.heap.size, 0, none⟩) 2 2 (fun i => if i = 0 then 97 else 98) _ ?n ?b (by decide)).mono ?_
  case n =>
    intro i hi
    refine ⟨_, _, rfl, ?_⟩
    have : i = 0 ∨ i = 1 := by omega
    simp only [World.cell?, heap_alloc_new]
    rcases this with rfl | rfl <;> rfl
  case b => intro i hi; split <;> decide
  rintro e w1 ⟨rfl, hM⟩
  have hp := pack_ab (fun i => if i = 0 then 97 else 98) rfl rfl
  have c0 := hM.cell 0 (by decide)
  have c1 := hM.cell 1 (by decide)
  rw [hp.1] at c0
  rw [hp.2] at c1
  have b1 : Below w.heap.size w (w.alloc (.cells #[.int .u8 97, .int .u8 98] 5 (2, 3))) := (Below.refl _ w).alloc (Nat.le_refl _) _
  exact ⟨_, rfl, c0, c1, b1.trans (hM.bel.mono b1.size)⟩
set_option maxRecDepth 100000 in
set_option maxHeartbeats 2000000 in
theorem awake_ok (w : World) : Calls Try.prog 7 #[] w fun e w' => e = .returned (.bool true) ∧ Below w.heap.size w w' := by
  have KN := hide need9
  have KU := hide (fun w => uvar_ok 300 w (by decide))
  have KP := hide (awake_pack w)
  have kc := fun (w : World) (C : Array Value) (n c : Nat) => Lib.run_convert_bytes_const (P := Try.prog) w 22 5 C n c Try.underlying22 Try.underlying5
  go_enter Try.func7, Try.ntmps7
  go_wp2_with fail
  refine (unhide KP).mono ?_
  rintro e w1 ⟨g, rfl, c0, c1, hB⟩
  have HB := hide hB
  clear kc KP hB
  go_wp2_with fail
  refine (unhide KU w1).mono ?_
  rintro e w2 ⟨v, rfl, hO⟩
  have hU : uvN 300 = [172, 2] := by rw [uv_hi 300 (by decide), uv_lo _ (by decide)]
  rw [hU] at hO
  obtain ⟨g2, cap, rfl, d0, d1⟩ := str_own hO.own
  have hcc : ∀ i, i < 2 → w2.cell? ⟨g2, 0 + i, none⟩ = some (.int .u8 ([172, 2].getD i 0)) := by
    intro i hi
    have : i = 0 ∨ i = 1 := by omega
    rcases this with rfl | rfl
    · exact d0
    · exact d1
  have ke : (convert 22 9 (.slice (some ⟨g2, 0, none⟩) 2 cap)).run Try.prog w2 = .ok (.string ⟨#[172, 2]⟩) w2 := run_convert_bytes_arg (P := Try.prog) w2 22 5 Try.underlying22 Try.underlying5 g2 0 2 cap [172, 2] rfl hcc 9 Try.underlying9
  have HB2 := hide ((unhide HB).trans (hO.bel.mono (unhide HB).size))
  clear hO d0 d1 hcc hU c0 c1
  go_wp2_with fail
  refine (unhide KN w2).mono ?_
  rintro e w3 ⟨rfl, h⟩; rw [h]; clear h w3
  go_wp2
  go_ret
  exact ⟨rfl, unhide HB2⟩
end Go.Proofs.Ytdmfooejjpppkaa
