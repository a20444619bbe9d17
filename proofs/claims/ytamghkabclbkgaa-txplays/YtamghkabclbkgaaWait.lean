/- Waiting: the words whose content is not what lasts. -/
import Derived.Test.YtamghkabclbkgaaLd
import Derived.Test.YtamghkabclbkgaaEq
import Derived.Deep.QuietTactic
import Derived.BigQuiet
namespace Go.Proofs.Ytamghkabclbkgaa
open Go.RowKit

/-- The words below m whose content is not what lasts. -/
def waitL (now lasts : Nat → Int) : Nat → List Nat
  | 0 => []
  | m + 1 => if now m = lasts m then waitL now lasts m else waitL now lasts m ++ [m]
def natVals (l : List Nat) : List Value := l.map fun (j : Nat) => .int .i64 j

theorem waitL_len (now lasts : Nat → Int) : ∀ m, (waitL now lasts m).length ≤ m
  | 0 => by simp [waitL]
  | m + 1 => by have := waitL_len now lasts m; simp only [waitL]; split <;> simp <;> omega

theorem waitL_skip (now lasts : Nat → Int) (m : Nat) : ∀ k, (∀ j, j < k → now (m + j) = lasts (m + j)) → waitL now lasts (m + k) = waitL now lasts m
  | 0, _ => rfl
  | k + 1, h => by
    rw [← Nat.add_assoc]
    simp only [waitL, if_pos (h k (by omega))]
    exact waitL_skip now lasts m k fun j hj => h j (by omega)

theorem owns_later {w : World} {base size n : Nat} {e : TypeId} {v : Value} {xs : List Value} (h : w.ownsRow base e size v n xs) (nq : Nat) (o : Obj) : ((w.drewN nq).alloc o).ownsRow base e size v n xs :=
  World.ownsRow.alloc (w := w.drewN nq) h o

theorem info3 : (Try.prog.info? 3).map (fun i => (i.zero, i.size, i.bytes)) = some (some (.int .i64 0), 1, 8) := by kernel_rfl

set_option maxHeartbeats 1000000 in
theorem waiting_row {kn kl : Nat} (b bn bl n : Nat) (now lasts : Nat → Int) (w : World) (hn : n ≤ 8192)
    (h0 : w.cell? ⟨b, 0, none⟩ = some (rowc bn n kn)) (h1 : w.cell? ⟨b, 1, none⟩ = some (rowc bl n kl))
    (hnow : ∀ j, j < n * 8 → w.cell? ⟨bn, j, none⟩ = some (u64 (now j))) (hlasts : ∀ j, j < n * 8 → w.cell? ⟨bl, j, none⟩ = some (u64 (lasts j))) :
    Calls Try.prog 48 #[ptr b] w fun e w' => ∃ v, e = .returned v ∧ w'.ownsRow w.heap.size 3 1 v (waitL now lasts (n * 8)).length (natVals (waitL now lasts (n * 8))) ∧ Fr (fun _ => False) w w' := by
  have hi := info3
  obtain ⟨i0, hi0⟩ : ∃ i, Try.prog.info? 3 = some i := by
    cases h : Try.prog.info? 3 with
    | none => rw [h] at hi; simp at hi
    | some i => exact ⟨i, rfl⟩
  rw [hi0] at hi
  simp only [Option.map_some, Option.some.injEq, Prod.mk.injEq] at hi
  have HI := hide (And.intro hi0 hi)
  clear hi hi0
  have HH := hide (And.intro hnow hlasts)
  clear hnow hlasts
  go_enter Try.func48, Try.ntmps48
  go_wp2
  go_loopw [3, 11] (fun v i wr => ∃ q : Nat, q ≤ n ∧ i = .int .i64 q ∧ wr.ownsRow w.heap.size 3 1 v (waitL now lasts (q * 8)).length (natVals (waitL now lasts (q * 8))) ∧ Fr (fun _ => False) w wr) (fun v i wr => n - (intOf i).toNat)
  case atStart => exact ⟨0, Nat.zero_le _, rfl, by simpa [waitL, natVals] using World.ownsRow_nil w w.heap.size 3 1, Fr.refl _ _⟩
  case round =>
    obtain ⟨q, hq, rfl, hown, hfr⟩ := hrel
    by_cases hlt : q < n
    · have hb := World.block_lt_of_cell? _ _ h0
      obtain ⟨hnow, hlasts⟩ := unhide HH
      have d0 : wr.cell? ⟨b, 0, none⟩ = some (rowc bn n kn) := hfr.cell' h0 (fun h => h)
      have d1 : wr.cell? ⟨b, 1, none⟩ = some (rowc bl n kl) := hfr.cell' h1 (fun h => h)
      have nn : ∀ k, k < 8 → wr.cell? ⟨bn, q * 8 + k, none⟩ = some (u64 (now (q * 8 + k))) := fun k hk => hfr.cell' (hnow _ (by omega)) (fun h => h)
      have ll : ∀ k, k < 8 → wr.cell? ⟨bl, q * 8 + k, none⟩ = some (u64 (lasts (q * 8 + k))) := fun k hk => hfr.cell' (hlasts _ (by omega)) (fun h => h)
      have n0 := nn 0 (by omega); have n1 := nn 1 (by omega); have n2 := nn 2 (by omega); have n3 := nn 3 (by omega)
      have n4 := nn 4 (by omega); have n5 := nn 5 (by omega); have n6 := nn 6 (by omega); have n7 := nn 7 (by omega)
      have m0 := ll 0 (by omega); have m1 := ll 1 (by omega); have m2 := ll 2 (by omega); have m3 := ll 3 (by omega)
      have m4 := ll 4 (by omega); have m5 := ll 5 (by omega); have m6 := ll 6 (by omega); have m7 := ll 7 (by omega)
      simp only [Nat.add_zero] at n0 m0
      have E := fun w => eq8 (fun k => now (q * 8 + k)) (fun k => lasts (q * 8 + k)) w
      simp only [Nat.add_zero] at E
      have NN := hide nn; have LL := hide ll; have HO := hide hown; have HF := hide hfr
      clear nn ll hnow hlasts hown hfr
      cases hb : alike (fun k => now (q * 8 + k)) (fun k => lasts (q * 8 + k)) 0 8
      · rw [hb] at E
        have HB := hide hb; clear hb
        go_wp2
        go_quiet (fail)
        go_wp2
        go_loopw [3, 29] (fun v i wx => ∃ k : Nat, k ≤ 8 ∧ i = .int .i64 k ∧ wx.ownsRow w.heap.size 3 1 v (waitL now lasts (q * 8 + k)).length (natVals (waitL now lasts (q * 8 + k))) ∧ Fr (fun _ => False) w wx) (fun v i wx => 8 - (intOf i).toNat)
        case atStart => exact ⟨0, Nat.zero_le _, rfl, unhide HO, (unhide HF).drewN _⟩
        case round =>
          obtain ⟨k, hk, rfl, hown, hfr⟩ := hrel
          by_cases hk8 : k < 8
          · obtain ⟨hnow, hlasts⟩ := unhide HH
            have f0 := hfr.cell' h0 (fun h => h)
            have f1 := hfr.cell' h1 (fun h => h)
            have fn := hfr.cell' (hnow (q * 8 + k) (by omega)) (fun h => h)
            have fl := hfr.cell' (hlasts (q * 8 + k) (by omega)) (fun h => h)
            have hsz := hfr.size
            have HO2 := hide hown; have HF2 := hide hfr
            clear hnow hlasts hown hfr d0 d1 n0 n1 n2 n3 n4 n5 n6 n7 m0 m1 m2 m3 m4 m5 m6 m7 E
            by_cases he : now (q * 8 + k) = lasts (q * 8 + k)
            · have hbe : (now (q * 8 + k) != lasts (q * 8 + k)) = false := by simp [he]
              have HE := hide he; clear he
              go_wp2
              go_quiet (fail)
              go_wp2
              go_roundw
              case rel =>
                refine ⟨k + 1, by omega, by go_num, ?_, (unhide HF2).drewN _⟩
                rw [← Nat.add_assoc]; simp only [waitL, if_pos (unhide HE)]
                exact unhide HO2
              case measure => simp [intOf]; omega
            · have hbe : (now (q * 8 + k) != lasts (q * 8 + k)) = true := by simp [he]
              have HE := hide he; clear he
              have hwl := waitL_len now lasts (q * 8 + k)
              generalize hgl : (waitL now lasts (q * 8 + k)).length = len at HO2 hwl
              generalize hgv : natVals (waitL now lasts (q * 8 + k)) = vals at HO2
              have HGL := hide hgl; have HGV := hide hgv
              clear hgl hgv
              go_wp2
              go_quiet (fail)
              go_wp2_with (at_builtin; refine wpList_append_own _ rfl _ _ 50 rfl w.heap.size 3 i0 (.int .i64 0) 1 8 Try.underlying50 (unhide HI).1 (unhide HI).2.1 (unhide HI).2.2.1 (unhide HI).2.2.2 rfl (by decide) _ len vals rfl (owns_later (unhide HO2) _ _) _ 1 1 [.int .i64 ((q : Int) * 8 + k)] rfl rfl ?c1 ?c2 ?c3 ?c4 ?c5 ?_)
              case c1 => exact cell_one_new _ _ _
              case c2 => intro u hu; simp at hu; subst hu; rfl
              case c3 => unfold maxLen; omega
              case c4 => omega
              case c5 => simp; omega
              intro v' w2 hown' hgrow' _
              have HO3 := hide hown'; have HG := hide hgrow'
              clear hown' hgrow'
              go_wp2
              go_roundw
              case rel =>
                refine ⟨k + 1, by omega, by go_num, ?_, ?_⟩
                · rw [← Nat.add_assoc]; simp only [waitL, if_neg (unhide HE)]
                  have := unhide HO3
                  rw [← unhide HGL, ← unhide HGV] at this
                  simpa [natVals] using this
                · exact (((unhide HF2).drewN _).alloc _).grown (unhide HG) (fun j hj => .inr ((unhide HO2).lt j hj).1)
              case measure => simp [intOf]; omega
          · have hk' : k = 8 := by omega
            subst hk'
            have HO2 := hide hown; have HF2 := hide hfr
            clear hown hfr
            go_wp2
            exact ⟨⟨q + 1, by omega, by go_num, by rw [show (q + 1) * 8 = q * 8 + 8 from by omega]; exact unhide HO2, unhide HF2⟩, by simp [intOf]; omega⟩
      · rw [hb] at E
        have HB := hide hb; clear hb
        go_wp2
        go_quiet (fail)
        go_wp2
        refine ⟨⟨q + 1, by omega, by go_num, ?_, (unhide HF).drewN _⟩, by simp [intOf]; omega⟩
        have hal := (alike_iff _ _ 8 0).1 (unhide HB)
        rw [show (q + 1) * 8 = q * 8 + 8 from by omega, waitL_skip now lasts (q * 8) 8 (fun j hj => hal j (by omega) (by omega))]
        exact unhide HO
    · have hqn : q = n := by omega
      subst hqn
      have HO := hide hown; have HF := hide hfr
      clear hown hfr
      go_wp2
      go_ret
      exact ⟨_, rfl, unhide HO, unhide HF⟩
end Go.Proofs.Ytamghkabclbkgaa
