/- Reply: lists of numbers are told. -/
import Derived.Test.YticflknfkaoejaaDoorTe
import Derived.Test.YticflknfkaoejaaDoorIn
import Derived.Test.YticflknfkaoejaaDoorTj
namespace Go.Proofs.YticflknfkaoejaaDoor
open Go.RowKit

def numW (zs : Nat → Int) (k : Nat) : List (List UInt8) := (List.range k).map fun i => Lib.itoa (zs i)
/-- The numbers behind their count. -/
def tailL (zs : Nat → Int) (k : Nat) : List UInt8 := ((numW zs k).map (32 :: ·)).flatten
def numsL (zs : Nat → Int) (n : Nat) : List UInt8 := [78,85,77,66,69,82,83] ++ 32 :: (Lib.decDigits n ++ (tailL zs n ++ [10]))
theorem numW_succ (zs : Nat → Int) (k : Nat) : numW zs (k + 1) = numW zs k ++ [Lib.itoa (zs k)] := by unfold numW; rw [List.range_succ, List.map_append]; rfl
theorem numW_len (zs : Nat → Int) (k : Nat) : (numW zs k).length = k := by simp [numW]
theorem tailL_succ (zs : Nat → Int) (k : Nat) : tailL zs (k + 1) = tailL zs k ++ 32 :: Lib.itoa (zs k) := by unfold tailL; rw [numW_succ, List.map_append, List.flatten_append]; simp
theorem tailL_len (zs : Nat → Int) (k : Nat) (h : ∀ i, i < k → (Lib.itoa (zs i)).length ≤ 21) : (tailL zs k).length ≤ k * 22 := by
  induction k with
  | zero => simp [tailL, numW]
  | succ k ih =>
    rw [tailL_succ, List.length_append]
    have := ih fun i hi => h i (by omega)
    have := h k (by omega)
    simp; omega
theorem nums_line (zs : Nat → Int) (n : Nat) : lineL ([[78,85,77,66,69,82,83], Lib.decDigits n] ++ numW zs n) = numsL zs n := by
  unfold lineL numsL tailL
  rw [List.cons_append, Lib.join_cons]
  simp [Lib.joinTail]
set_option maxRecDepth 100000 in
set_option maxHeartbeats 1000000 in
theorem dnums_ok {w : World} (a : Option Addr) (len cap : Nat) (zs : Nat → Int) (h : Nums w a len zs) (hl : len ≤ 100) (hz : ∀ i, i < len → -9223372036854775808 < zs i ∧ zs i ≤ 9223372036854775807) :
    Calls Tryd.prog 20 #[.slice a len cap] w fun e w' => e = .returned (.string (bs (numsL zs len))) ∧ w' = w := by
  have hD := ddigits_nat len (by omega)
  have hd2 := dec_small len (by omega)
  have H := hide (And.intro h hz)
  have htl := fun k (hk : k ≤ len) => tailL_len zs k fun i hi => itoa_len _ (by have := hz i (by omega); omega) (hz i (by omega)).2
  unfold numsL
  obtain ⟨d, hd⟩ : ∃ d, Lib.decDigits len = d := ⟨_, rfl⟩
  rw [hd] at hD hd2 ⊢
  have he : [78,85,77,66,69,82,83] ++ 32 :: (d ++ (tailL zs len ++ [10])) = ([78,85,77,66,69,82,83,32] ++ d) ++ tailL zs len ++ [10] := by simp
  rw [he]
  have a1 : ∀ w, (Op.stringOp .add ⟨#[78,85,77,66,69,82,83,32]⟩ (bs d)).run Tryd.prog w = .ok (.string (bs ([78,85,77,66,69,82,83,32] ++ d))) w := fun w => bs_add _ d (by simp; omega) w
  have hpl : ([78,85,77,66,69,82,83,32] ++ d).length ≤ 30 := by simp; omega
  obtain ⟨pr, hp⟩ : ∃ t, [78,85,77,66,69,82,83,32] ++ d = t := ⟨_, rfl⟩
  rw [hp] at a1 hpl ⊢
  have HT := hide (And.intro htl hpl)
  clear hd hp he hz h hd2 htl hpl
  go_enter Tryd.func20, Tryd.ntmps20
  go_wp2_with (first | (go_at_call 40; refine (hD _).mono ?_; rintro e w' ⟨rfl, rfl⟩))
  go_loop [3, 4] (fun s i => ∃ k : Nat, s = sv (pr ++ tailL zs k) ∧ i = iv k ∧ Hid (k ≤ len)) (fun _ i => len - (RowKit.intOf i).toNat)
  case atStart => exact ⟨0, by simp [tailL, numW], rfl, hide (Nat.zero_le _)⟩
  case round =>
    obtain ⟨k, rfl, rfl, HI⟩ := hrel
    by_cases hlt : k < len
    · have hlt' : ((k : Int) < len) = True := by simp; omega
      obtain ⟨g, o, rfl, c0⟩ := (unhide H).1 k hlt
      obtain ⟨z1, z2⟩ := (unhide H).2 k hlt
      have htk := (unhide HT).1 k (by omega)
      have hpl := (unhide HT).2
      have hsu := tailL_succ zs k
      obtain ⟨z, hz⟩ : ∃ z, zs k = z := ⟨_, rfl⟩
      rw [hz] at c0 z1 z2 hsu
      have hDz := ddigits_ok z z1 z2
      have hzl := itoa_len z (by omega) z2
      obtain ⟨t, ht⟩ : ∃ t, Lib.itoa z = t := ⟨_, rfl⟩
      rw [ht] at hDz hzl hsu
      obtain ⟨q, hq⟩ : ∃ q, pr ++ tailL zs k = q := ⟨_, rfl⟩
      have hql : q.length ≤ 3000 := by rw [← hq]; simp; omega
      have b1 : ∀ w, (Op.stringOp .add (bs q) ⟨#[32]⟩).run Tryd.prog w = .ok (.string (bs (q ++ [32]))) w := fun w => bs_add q [32] (by simp; omega) w
      have b2 : ∀ w, (Op.stringOp .add (bs (q ++ [32])) (bs t)).run Tryd.prog w = .ok (.string (bs (q ++ [32] ++ t))) w := fun w => bs_add _ t (by simp; omega) w
      have hn : q ++ [32] ++ t = pr ++ tailL zs (k + 1) := by rw [hsu, ← hq]; simp
      rw [hn] at b2
      rw [hq]
      obtain ⟨q1, hq1⟩ : ∃ t, q ++ [32] = t := ⟨_, rfl⟩
      rw [hq1] at b1 b2
      obtain ⟨q2, hq2⟩ : ∃ t, pr ++ tailL zs (k + 1) = t := ⟨_, rfl⟩
      rw [hq2] at b2
      have HL := hide (And.intro hlt hq2)
      have hk : k ≤ 1000 := by omega
      clear hlt htk hpl hsu hz hzl ht hq hql hn hq1 hq2 z1 z2
      go_wp2_with (first | (go_at_call 40; refine (hDz _).mono ?_; rintro e w' ⟨rfl, rfl⟩))
      exact ⟨⟨k + 1, by rw [(unhide HL).2], by go_num, hide (by have := (unhide HL).1; omega)⟩, by have := (unhide HL).1; simp [RowKit.intOf]; omega⟩
    · have hlt' : ((k : Int) < len) = False := by simp; omega
      obtain rfl : k = len := by have := unhide HI; omega
      have htk := (unhide HT).1 k (by omega)
      have hpl := (unhide HT).2
      obtain ⟨q, hq⟩ : ∃ q, pr ++ tailL zs k = q := ⟨_, rfl⟩
      have hql : q.length ≤ 3000 := by rw [← hq]; simp; omega
      have b1 : ∀ w, (Op.stringOp .add (bs q) ⟨#[10]⟩).run Tryd.prog w = .ok (.string (bs (q ++ [10]))) w := fun w => bs_add q [10] (by simp; omega) w
      rw [hq]
      obtain ⟨q1, hq1⟩ : ∃ t, q ++ [10] = t := ⟨_, rfl⟩
      rw [hq1] at b1
      have HQ := hide (show pr ++ (tailL zs k ++ [10]) = q1 by rw [← List.append_assoc, hq, hq1])
      clear hlt htk hpl hq hql hq1
      go_wp2
      go_ret
      exact ⟨by rw [unhide HQ]; rfl, rfl⟩

set_option maxRecDepth 100000 in
set_option maxHeartbeats 4000000 in
theorem rnums_ok {W w : World} (hK : Kn W w) (a : Option Addr) (len cap : Nat) (zs : Nat → Int) (h : Nums w a len zs) (hl : len ≤ 100) (hz : ∀ i, i < len → -9223372036854775808 ≤ zs i ∧ zs i ≤ 9223372036854775807) :
    Calls Tryd.prog 19 #[.slice a len cap] w fun e w' => e = .returned (.string (bs (numsL zs len))) ∧ Still w w' := by
  have hI := itoa_ok (len : Int) (by omega) (by omega) hK
  rw [itoa_nat] at hI
  have hd2 := dec_small len (by omega)
  rw [← nums_line]
  have htl := tailL_len zs len fun i hi => itoa_len _ (hz i hi).1 (hz i hi).2
  have hll : (lineL ([[78,85,77,66,69,82,83], Lib.decDigits len] ++ numW zs len)).length ≤ 3000 := by
    rw [nums_line]; unfold numsL; simp; omega
  obtain ⟨d, hd⟩ : ∃ d, Lib.decDigits len = d := ⟨_, rfl⟩
  rw [hd] at hI hll ⊢
  have H := hide (And.intro hK (And.intro h (And.intro hz hll)))
  have HI := hide hI
  clear hd hd2 htl hll hI hK h hz
  go_enter Tryd.func19, Tryd.ntmps19
  go_wp2_with fail
  refine (unhide HI).mono ?_
  rintro e w1 ⟨rfl, s1⟩
  have t0 : Txt (w1.alloc (.cells #[sv [78,85,77,66,69,82,83], sv d] 9)) w.heap.size (.slice (some ⟨w1.heap.size, 0, none⟩) 2 2) [[78,85,77,66,69,82,83], d] := World.ownsRow_lit w1 #[sv [78,85,77,66,69,82,83], sv d] 2 s1.size (by unfold maxLen; omega) rfl
  have S1 := hide (And.intro t0 (s1.alloc (.cells #[sv [78,85,77,66,69,82,83], sv d] 9)))
  clear s1 t0 HI
  go_wp2_with fail
  go_loopw [3, 5, 12] (fun v _ i wr => ∃ (k : Nat) (p : Option Addr) (c : Nat), i = iv k ∧ v = .slice p (k + 2) c ∧ Hid (k ≤ len ∧ Txt wr w.heap.size (.slice p (k + 2) c) ([[78,85,77,66,69,82,83], d] ++ numW zs k) ∧ Still w wr)) (fun _ _ i _ => len - (RowKit.intOf i).toNat)
  case atStart => exact ⟨0, _, _, rfl, rfl, hide ⟨Nat.zero_le _, (unhide S1).1, (unhide S1).2⟩⟩
  case round =>
    obtain ⟨k, p, c, rfl, rfl, HJ⟩ := hrel
    by_cases hlt : k < len
    · have hlt' : ((k : Int) < len) = True := by simp; omega
      obtain ⟨xb, xo, rfl, c1⟩ := (unhide H).2.1 k hlt
      have c0 := (unhide HJ).2.2.cell' c1 fun x => x
      obtain ⟨z1, z2⟩ := (unhide H).2.2.1 k hlt
      have hsu := numW_succ zs k
      obtain ⟨z, hz⟩ : ∃ z, zs k = z := ⟨_, rfl⟩
      rw [hz] at c0 z1 z2 hsu
      have hIz := itoa_ok z z1 z2 ((unhide H).1.still (unhide HJ).2.2)
      obtain ⟨t, ht⟩ : ∃ t, Lib.itoa z = t := ⟨_, rfl⟩
      rw [ht] at hIz hsu
      have HZ := hide hIz
      have HL := hide (And.intro hlt hsu)
      have hk : k ≤ 1000 := by omega
      clear hlt c1 hz ht hIz hsu z1 z2
      go_wp2_with fail
      refine (unhide HZ).mono ?_
      rintro e w2 ⟨rfl, s2⟩
      have t2 : Txt w2 w.heap.size (.slice p (k + 2) c) ([[78,85,77,66,69,82,83], d] ++ numW zs k) := (unhide HJ).2.1.still s2 fun _ _ x => x
      have hlen : ([[78,85,77,66,69,82,83], d] ++ numW zs k).length = k + 2 := by simp [numW_len]
      obtain ⟨pa, pc, w3, hap, t3, f3, -⟩ := Txt.more w2 w.heap.size (.slice p (k + 2) c) _ t2 t (by omega) (Nat.le_trans (unhide HJ).2.2.size s2.size)
      rw [hlen] at hap t3
      rw [List.append_assoc, ← (unhide HL).2] at t3
      have S3 := hide (((unhide HJ).2.2.trans s2).trans' f3 fun g hg => .inr (t2.lt g hg).1)
      have HAP := hide hap
      have HT := hide t3
      clear hap t3 f3 t2 s2 HZ c0 hlen
      go_wp2_with (at_builtin; refine wpList_append_run rfl (.tmp 16) (.tmp 19) 24 rfl _ _ rfl rfl (.slice pa (k + 2 + 1) pc) w3 (unhide HAP) ?_)
      exact ⟨⟨k + 1, pa, pc, by go_num, by rw [show k + 1 + 2 = k + 2 + 1 by omega], hide ⟨by have := (unhide HL).1; omega, by rw [show k + 1 + 2 = k + 2 + 1 by omega]; exact unhide HT, unhide S3⟩⟩, by have := (unhide HL).1; simp [RowKit.intOf]; omega⟩
    · have hlt' : ((k : Int) < len) = False := by simp; omega
      obtain rfl : k = len := by have := (unhide HJ).1; omega
      have hlen : ([[78,85,77,66,69,82,83], d] ++ numW zs k).length = k + 2 := by simp [numW_len]
      have HO : Calls Tryd.prog 35 #[.slice p (k + 2) c] wr fun e w' => e = .returned (.string (bs (lineL ([[78,85,77,66,69,82,83], d] ++ numW zs k)))) ∧ Still wr w' := by
        rcases Txt.form (unhide HJ).2.1 with ⟨_, e⟩ | ⟨g, cap, e, _, hg, hc, hx⟩
        · cases e
        · injection e with e1 e2 e3
          subst e1 e3
          have hc' : k + 2 ≤ c := by rw [← hlen]; exact hc
          rw [← hlen]
          exact oneLine_ok g 0 c _ (fun j x hj => by rw [Nat.zero_add]; exact hx j x hj) hg (by rw [hlen]; omega) (by rw [hlen]; exact hc') (by have := (unhide H).2.2.2; omega)
      have HO' := hide HO
      clear HO hlen hlt
      go_wp2_with fail
      refine (unhide HO').mono ?_
      rintro e w2 ⟨rfl, s2⟩
      have S2 := hide ((unhide HJ).2.2.trans s2)
      clear s2 HO'
      go_wp2
      go_ret
      exact ⟨rfl, unhide S2⟩
end Go.Proofs.YticflknfkaoejaaDoor
