/- The document's own Split of the front of joined parts. -/
import Derived.Test.YtdmfooejjpppkaaSp
namespace Go.Proofs.Ytdmfooejjpppkaa
open Go.RowKit

theorem strB_data (f : Nat → Nat) (n : Nat) : (strB f n).data.toList = (List.range n).map fun i => UInt8.ofNat (f i) := by
  simp [strB, strOfNums, rowL]
theorem strB_from (f : Nat → Nat) (n l : Nat) : (strB f n).extract l n = strB (fun t => f (l + t)) (n - l) := by
  apply ByteArray.ext
  apply Array.ext'
  rw [strB_data, ByteArray.data_extract, Array.toList_extract, strB_data]
  apply List.ext_getElem
  · simp
  · intro i h1 h2; simp
theorem str_from (f : Nat → Nat) (n l : Nat) (k : IntKind) (hl : l ≤ n) (w : World) : (Instr.slice 9 (.string (strB f n)) (some (.int k (l : Nat))) none none).run Try.prog w = .ok (.string (strB (fun t => f (l + t)) (n - l))) w := by
  rw [run_slice_string_from_if w 9 _ k _ Try.underlying9, strB_size, if_pos ⟨by omega, by omega⟩, Int.toNat_natCast, strB_from]
theorem str_to (f : Nat → Nat) (n l : Nat) (k : IntKind) (hl : l ≤ n) (w : World) : (Instr.slice 9 (.string (strB f n)) none (some (.int k (l : Nat))) none).run Try.prog w = .ok (.string ((strB f n).extract 0 l)) w := by
  rw [run_slice_string_to_if w 9 _ k _ Try.underlying9, strB_size, if_pos ⟨by omega, by omega⟩, Int.toNat_natCast]
theorem strB_ne (f : Nat → Nat) (n : Nat) (h : 0 < n) : (strB f n).toList.isEmpty = false := by
  rw [ByteArray.toList_eq, strB_data]
  obtain ⟨m, rfl⟩ : ∃ m, n = m + 1 := ⟨n - 1, by omega⟩
  rw [List.range_succ]
  simp
/-- How long a text is. -/
def sizeOfV : Value → Nat | .string s => s.size | _ => 0

set_option maxRecDepth 100000 in
set_option maxHeartbeats 4000000 in
theorem refSplit_ok (k n : Nat) (L : Nat → Nat) (Z : Nat → Nat → Nat) (w : World) (hf : ∀ t, joinF L Z n t < 256) (hk : k < offL L n) (hn : n ≤ 20) (hL : ∀ i, i < n → L i ≤ 3000) (hk2 : k ≤ 100000) :
    Calls Try.prog 10 #[.string (strB (joinF L Z n) k)] w fun e w' => Below w.heap.size w w' ∧
      ((∃ i, i < n ∧ offL L i = k ∧ ∃ pa pc, e = .returned (.tuple #[.slice pa i pc, .int .i64 0])) ∨ ((∀ i, offL L i ≠ k) ∧ e = .returned (.tuple #[.slice none 0 0, .int .i64 4]))) := by
  have HF := hide hf
  have HL := hide hL
  have HAt := hide (fun i hi => joinF_at L Z n i hi (fun j hj => by have := hL j hj; omega))
  have KV := hide refVar_ok
  have HK := hide hk
  clear hf hL
  go_enter Try.func10, Try.ntmps10
  go_wp2_with fail
  go_loopw [0, 4] (fun vb vp wr => ∃ (i : Nat), vb = .string (strB (fun t => joinF L Z n (offL L i + t)) (k - offL L i)) ∧ Hid (offL L i ≤ k ∧ (∃ xs, wr.ownsRow w.heap.size 9 1 vp i xs) ∧ Below w.heap.size w wr)) (fun vb vp wr => sizeOfV vb)
  case atStart => exact ⟨0, by simp [offL], hide ⟨Nat.zero_le _, ⟨[], World.ownsRow_nil _ _ _ _⟩, Below.refl _ _⟩⟩
  case round =>
    obtain ⟨i, rfl, HI⟩ := hrel
    obtain ⟨ho, hXs, hB⟩ := unhide HI
    by_cases hend : offL L i = k
    · have he : strB (fun t => joinF L Z n (offL L i + t)) (k - offL L i) = ⟨#[]⟩ := by rw [show k - offL L i = 0 by omega]; rfl
      rw [he]
      have hi : i < n := by
        rcases Nat.lt_or_ge i n with h | h
        · exact h
        · rcases Nat.lt_or_ge n i with h2 | h2
          · have := off_lt L n i h2; have := unhide HK; omega
          · have e : i = n := by omega
            subst e; have := unhide HK; omega
      obtain ⟨xs, hX⟩ := hXs
      obtain ⟨pa, pc, rfl⟩ := rows_form hX
      have HB := hide hB
      have HE := hide hend
      have HII := hide hi
      clear HI hX hB hend ho he
      go_wp2
      go_ret2
      exact ⟨unhide HB, .inl ⟨i, unhide HII, unhide HE, pa, pc, rfl⟩⟩
    · have hi : i < n := by
        rcases Nat.lt_or_ge i n with h | h
        · exact h
        · rcases Nat.lt_or_ge n i with h2 | h2
          · have := off_lt L n i h2; have := unhide HK; omega
          · have e : i = n := by omega
            subst e; have := unhide HK; omega
      have hli := unhide HL i hi
      obtain ⟨hA1, hA2⟩ := unhide HAt i hi
      have hstep : offL L (i + 1) = offL L i + (ul (L i) + L i) := rfl
      have hup := ul_pos (L i)
      have hne := strB_ne (fun t => joinF L Z n (offL L i + t)) (k - offL L i) (by omega)
      have KV1 := hide (unhide KV (k - offL L i) (fun t => joinF L Z n (offL L i + t)) (L i) wr (fun t _ => unhide HF _) (by omega) (by omega) (by omega) hA1 (fun h => ⟨(hA2 h).1, fun _ => (hA2 h).2⟩))
      have HSZ := hide (strB_size (fun t => joinF L Z n (offL L i + t)) (k - offL L i))
      by_cases htorn : L i < 128 ∨ 2 ≤ k - offL L i
      · have hv : varR (L i) (k - offL L i) = #[.int .u64 (L i : Nat), .int .i64 (ul (L i) : Nat), .int .i64 0] := by unfold varR; rw [if_pos htorn]
        rw [hv] at KV1
        have hum : ul (L i) ≤ k - offL L i := by
          unfold ul; split <;> omega
        have hs1 := fun w => str_from (fun t => joinF L Z n (offL L i + t)) (k - offL L i) (ul (L i)) .i64 hum w
        have hsz2 := strB_size (fun t => joinF L Z n (offL L i + (ul (L i) + t))) (k - offL L i - ul (L i))
        by_cases hbig : k - offL L i - ul (L i) < L i
        · have hbig' : ((k - offL L i - ul (L i) : Nat) : Int) < (L i : Nat) := by omega
          have HNO := hide (no_off L i k (by omega) (by rw [hstep]; omega))
          have HB := hide hB
          have hmm : k - offL L i - ul (L i) ≤ 100000 := by omega
          clear HI hXs hB hA1 hA2 hv hstep htorn hend hbig
          generalize strB (fun t => joinF L Z n (offL L i + (ul (L i) + t))) (k - offL L i - ul (L i)) = s2 at *
          generalize strB (fun t => joinF L Z n (offL L i + t)) (k - offL L i) = s1 at *
          generalize ul (L i) = u at *
          generalize k - offL L i - u = m2 at *
          go_wp2_with fail
          refine (unhide KV1).mono ?_
          rintro e w' ⟨rfl, h⟩; rw [h]; clear h w'
          go_wp2
          go_ret2
          exact ⟨unhide HB, .inr ⟨unhide HNO, rfl⟩⟩
        · have hbig' : ¬ ((k - offL L i - ul (L i) : Nat) : Int) < (L i : Nat) := by omega
          have HST := hide hstep
          have hmm : k - offL L i - ul (L i) ≤ 100000 := by omega
          have hs2 := fun w => str_to (fun t => joinF L Z n (offL L i + (ul (L i) + t))) (k - offL L i - ul (L i)) (L i) .i64 (by omega) w
          have hs3 := fun w => str_from (fun t => joinF L Z n (offL L i + (ul (L i) + t))) (k - offL L i - ul (L i)) (L i) .i64 (by omega) w
          have HNX := hide (show offL L (i + 1) ≤ k ∧ strB (fun t => joinF L Z n (offL L i + (ul (L i) + (L i + t)))) (k - offL L i - ul (L i) - L i) = strB (fun t => joinF L Z n (offL L (i + 1) + t)) (k - offL L (i + 1)) ∧ k - offL L i - ul (L i) - L i < k - offL L i by
            rw [hstep]
            refine ⟨by omega, ?_, by omega⟩
            rw [show k - offL L i - ul (L i) - L i = k - (offL L i + (ul (L i) + L i)) by omega]
            exact strB_congr _ _ _ fun t _ => by rw [show offL L i + (ul (L i) + (L i + t)) = offL L i + (ul (L i) + L i) + t by omega])
          have HSZ3 := hide (strB_size (fun t => joinF L Z n (offL L i + (ul (L i) + (L i + t)))) (k - offL L i - ul (L i) - L i))
          have HB := hide hB
          have HX := hide hXs
          have hg0 : w.heap.size ≤ wr.heap.size := hB.size
          have hi20 : i ≤ 1000 := by omega
          clear HI hXs hB hA1 hA2 hv hstep htorn hend hbig
          generalize strB (fun t => joinF L Z n (offL L i + (ul (L i) + (L i + t)))) (k - offL L i - ul (L i) - L i) = s3 at *
          generalize strB (fun t => joinF L Z n (offL L i + (ul (L i) + t))) (k - offL L i - ul (L i)) = s2 at *
          generalize strB (fun t => joinF L Z n (offL L i + t)) (k - offL L i) = s1 at *
          generalize ul (L i) = u at *
          generalize k - offL L i - u = m2 at *
          generalize L i = li at *
          go_wp2_with fail
          refine (unhide KV1).mono ?_
          rintro e w' ⟨rfl, h⟩; rw [h]; clear h w'
          go_wp2_with (at_builtin; refine append_val infoT rfl (by decide) Try.underlying33 wr rfl (.tmp 27) (.tmp 32) rfl w.heap.size _ i _ rfl rfl (unhide HX) rfl hi20 hg0 ?_)
          intro v3 w3 xs3 hX3 hB3
          have HX3 := hide (show ∃ xs, w3.ownsRow w.heap.size 9 1 v3 (i + 1) xs from ⟨xs3, hX3⟩)
          have HW3 := hide ((unhide HB).trans hB3)
          clear hX3 hB3
          go_wp2
          go_roundw
          case rel =>
            obtain ⟨f1, f2, _⟩ := unhide HNX
            exact ⟨i + 1, by rw [f2], hide ⟨f1, unhide HX3, unhide HW3⟩⟩
          case measure =>
            have h1 := (unhide HNX).2.2
            have h2 := unhide HSZ
            have h3 := unhide HSZ3
            simp only [sizeOfV]
            omega
      · have hv : varR (L i) (k - offL L i) = #[.int .u64 0, .int .i64 0, .int .i64 4] := by unfold varR; rw [if_neg htorn]
        rw [hv] at KV1
        have hu2 : ul (L i) = 2 := by unfold ul; rw [if_neg (by omega)]
        have HNO := hide (no_off L i k (by omega) (by rw [hstep]; omega))
        have HB := hide hB
        clear HI hXs hB hA1 hA2 hv hstep htorn hend
        generalize strB (fun t => joinF L Z n (offL L i + t)) (k - offL L i) = s1 at *
        go_wp2_with fail
        refine (unhide KV1).mono ?_
        rintro e w' ⟨rfl, h⟩; rw [h]; clear h w'
        go_wp2
        go_ret2
        exact ⟨unhide HB, .inr ⟨unhide HNO, rfl⟩⟩
end Go.Proofs.Ytdmfooejjpppkaa
