/- Reply: the document's own pairs and members; spreads. -/
import Derived.Test.YticflknfkaoejaaDoorTe
import Derived.Test.YticflknfkaoejaaDoorRp
import Derived.BigQuiet
namespace Go.Proofs.YticflknfkaoejaaDoor
open Go.RowKit

/-- Pairs of texts that are read. -/
def Prs16 (w : World) (p : Option Addr) (ps : List (List UInt8 × List UInt8)) : Prop := ∀ i k v, ps[i]? = some (k, v) → ∃ g o, p = some ⟨g, o, none⟩ ∧ w.cell? ⟨g, o + i * 2, none⟩ = some (sv k) ∧ w.cell? ⟨g, o + i * 2 + 1, none⟩ = some (sv v)
set_option maxRecDepth 100000 in
set_option maxHeartbeats 4000000 in
theorem dpairs_ok {w : World} (p : Option Addr) (c : Nat) (ps : List (List UInt8 × List UInt8)) (hp : Prs16 w p ps) (hn : ps.length ≤ 100) (hs : ∀ k v, (k, v) ∈ ps → k.length ≤ 10000 ∧ v.length ≤ 10000) :
    Calls Tryd.prog 14 #[.slice p ps.length c] w fun e w' => e = .returned (.string (bs (pairsL ps))) ∧ Still w w' := by
  have hD := ddigits_nat ps.length (by omega)
  have hd := dec_small ps.length (by omega)
  unfold pairsL
  rw [line2_len]
  obtain ⟨d, hdd⟩ : ∃ d, Lib.decDigits ps.length = d := ⟨_, rfl⟩
  rw [hdd] at hD hd ⊢
  obtain ⟨h1, e_h1⟩ : ∃ t, [80,65,73,82,83,32] ++ d = t := ⟨_, rfl⟩
  have l_h1 : h1.length ≤ 26 := by rw [← e_h1]; simp; omega
  have a_h1 : ∀ w, (Op.stringOp .add ⟨#[80,65,73,82,83,32]⟩ (bs d)).run Tryd.prog w = .ok (.string (bs h1)) w := fun w => by rw [← e_h1]; exact bs_add [80,65,73,82,83,32] d (by (try simp only [List.length_cons, List.length_nil]); omega) w
  obtain ⟨h2, e_h2⟩ : ∃ t, h1 ++ [10] = t := ⟨_, rfl⟩
  have l_h2 : h2.length ≤ 27 := by rw [← e_h2]; simp; omega
  have a_h2 : ∀ w, (Op.stringOp .add (bs h1) ⟨#[10]⟩).run Tryd.prog w = .ok (.string (bs h2)) w := fun w => by rw [← e_h2]; exact bs_add h1 [10] (by (try simp only [List.length_cons, List.length_nil]); omega) w
  have he : [80,65,73,82,83] ++ 32 :: (d ++ [10]) = h2 := by rw [← e_h2, ← e_h1]; simp
  rw [he]
  obtain ⟨n, hn'⟩ : ∃ n, ps.length = n := ⟨_, rfl⟩
  rw [hn'] at hn hD ⊢
  have H := hide (And.intro hp (And.intro hn' (And.intro hs l_h2)))
  clear hp hs hd hdd hn' he e_h1 e_h2 l_h1 l_h2
  go_enter Tryd.func14, Tryd.ntmps14
  go_wp2_with (first | (go_at_call 40; refine (hD _).mono ?_; rintro e w' ⟨rfl, rfl⟩))
  go_loopw [3, 4] (fun s i wr => ∃ k : Nat, s = sv (h2 ++ ((ps.take k).map fun p => valueL p.1 p.2).flatten) ∧ i = iv k ∧ Hid (k ≤ n ∧ Still w' wr)) (fun _ i _ => n - (RowKit.intOf i).toNat)
  case atStart => exact ⟨0, by simp, rfl, hide ⟨Nat.zero_le _, Fr.refl _ _⟩⟩
  case round =>
    obtain ⟨k, rfl, rfl, HJ⟩ := hrel
    have hpl := (unhide H).2.1
    have hlen : ((ps.take k).map fun p => valueL p.1 p.2).flatten.length ≤ 100 * 30000 := by
      have h1 := flat_len (fun p : List UInt8 × List UInt8 => valueL p.1 p.2) 30000 (ps.take k) fun x hx => by
        obtain ⟨k', v'⟩ := x
        have h2 := (unhide H).2.2.1 k' v' (List.mem_of_mem_take hx)
        have := valueL_len k' v' (by omega)
        show (valueL k' v').length ≤ _
        omega
      have h3 : (ps.take k).length ≤ 100 := by rw [List.length_take]; omega
      have := Nat.mul_le_mul_right 30000 h3
      omega
    by_cases hlt : k < n
    · have hlt' : ((k : Int) < n) = True := by simp; omega
      obtain ⟨⟨key, val⟩, hx⟩ : ∃ x, ps[k]? = some x := ⟨_, List.getElem?_eq_getElem (by rw [(unhide H).2.1]; exact hlt)⟩
      obtain ⟨g, o, rfl, x0, x1⟩ := (unhide H).1 k key val hx
      have c0 := (unhide HJ).2.cell' x0 fun x => x
      have c1 := (unhide HJ).2.cell' x1 fun x => x
      obtain ⟨m1, m2⟩ := (unhide H).2.2.1 key val (List.mem_of_getElem? hx)
      have hfl := flat_take (fun p : List UInt8 × List UInt8 => valueL p.1 p.2) ps k (key, val) hx
      have hl2 := (unhide H).2.2.2
      obtain ⟨q, hq⟩ : ∃ q, h2 ++ ((ps.take k).map fun p => valueL p.1 p.2).flatten = q := ⟨_, rfl⟩
      have l_q : q.length ≤ 3000100 := by rw [← hq]; simp only [List.length_append]; omega
      have hDv := ddigits_nat val.length (by omega)
      have hdv := dec_small val.length (by omega)
      have hvl : valueL key val = key ++ 32 :: (Lib.decDigits val.length ++ [10]) ++ val ++ [10] := by unfold valueL; rw [line2_len]
      obtain ⟨dv, hdv2⟩ : ∃ d, Lib.decDigits val.length = d := ⟨_, rfl⟩
      rw [hdv2] at hDv hdv hvl
      have hsv := bs_size val
      obtain ⟨q1, e_q1⟩ : ∃ t, q ++ key = t := ⟨_, rfl⟩
      have l_q1 : q1.length ≤ 3010100 := by rw [← e_q1]; simp; omega
      have a_q1 : ∀ w, (Op.stringOp .add (bs q) (bs key)).run Tryd.prog w = .ok (.string (bs q1)) w := fun w => by rw [← e_q1]; exact bs_add q key (by (try simp only [List.length_cons, List.length_nil]); omega) w
      obtain ⟨q2, e_q2⟩ : ∃ t, q1 ++ [32] = t := ⟨_, rfl⟩
      have l_q2 : q2.length ≤ 3010101 := by rw [← e_q2]; simp; omega
      have a_q2 : ∀ w, (Op.stringOp .add (bs q1) ⟨#[32]⟩).run Tryd.prog w = .ok (.string (bs q2)) w := fun w => by rw [← e_q2]; exact bs_add q1 [32] (by (try simp only [List.length_cons, List.length_nil]); omega) w
      obtain ⟨q3, e_q3⟩ : ∃ t, q2 ++ dv = t := ⟨_, rfl⟩
      have l_q3 : q3.length ≤ 3010121 := by rw [← e_q3]; simp; omega
      have a_q3 : ∀ w, (Op.stringOp .add (bs q2) (bs dv)).run Tryd.prog w = .ok (.string (bs q3)) w := fun w => by rw [← e_q3]; exact bs_add q2 dv (by (try simp only [List.length_cons, List.length_nil]); omega) w
      obtain ⟨q4, e_q4⟩ : ∃ t, q3 ++ [10] = t := ⟨_, rfl⟩
      have l_q4 : q4.length ≤ 3010122 := by rw [← e_q4]; simp; omega
      have a_q4 : ∀ w, (Op.stringOp .add (bs q3) ⟨#[10]⟩).run Tryd.prog w = .ok (.string (bs q4)) w := fun w => by rw [← e_q4]; exact bs_add q3 [10] (by (try simp only [List.length_cons, List.length_nil]); omega) w
      obtain ⟨q5, e_q5⟩ : ∃ t, q4 ++ val = t := ⟨_, rfl⟩
      have l_q5 : q5.length ≤ 3020122 := by rw [← e_q5]; simp; omega
      have a_q5 : ∀ w, (Op.stringOp .add (bs q4) (bs val)).run Tryd.prog w = .ok (.string (bs q5)) w := fun w => by rw [← e_q5]; exact bs_add q4 val (by (try simp only [List.length_cons, List.length_nil]); omega) w
      obtain ⟨q6, e_q6⟩ : ∃ t, q5 ++ [10] = t := ⟨_, rfl⟩
      have l_q6 : q6.length ≤ 3020123 := by rw [← e_q6]; simp; omega
      have a_q6 : ∀ w, (Op.stringOp .add (bs q5) ⟨#[10]⟩).run Tryd.prog w = .ok (.string (bs q6)) w := fun w => by rw [← e_q6]; exact bs_add q5 [10] (by (try simp only [List.length_cons, List.length_nil]); omega) w
      have hq6 : h2 ++ ((ps.take (k + 1)).map fun p => valueL p.1 p.2).flatten = q6 := by
        rw [hfl, ← List.append_assoc, hq, hvl, ← e_q6, ← e_q5, ← e_q4, ← e_q3, ← e_q2, ← e_q1]; simp
      rw [hq]
      have HL := hide (And.intro hlt hq6)
      clear hpl
      have hk : k ≤ 1000 := by omega
      clear hlt hx x0 x1 m1 m2 hfl hl2 hq l_q hdv hvl hdv2 hq6 hlen e_q1 e_q2 e_q3 e_q4 e_q5 e_q6 l_q1 l_q2 l_q3 l_q4 l_q5 l_q6
      go_wp2_with fail
      go_quiet (first | (go_at_call 40; exact Calls.quiet_of_same (hDv _)))
      go_wp2_with fail
      exact ⟨⟨k + 1, by rw [(unhide HL).2], by go_num, hide ⟨by have := (unhide HL).1; omega, (unhide HJ).2.trans ((Fr.refl _ _).drewN _)⟩⟩, by have := (unhide HL).1; simp [RowKit.intOf]; omega⟩
    · have hlt' : ((k : Int) < n) = False := by simp; omega
      obtain rfl : k = n := by have := (unhide HJ).1; omega
      have HQ := hide (show ps.take k = ps from List.take_of_length_le (by rw [(unhide H).2.1]; exact Nat.le_refl _))
      clear hlt hlen hpl
      go_wp2
      go_ret
      exact ⟨by rw [unhide HQ]; rfl, (unhide HJ).2⟩
/-- Members' names and scores, apart, that are read. -/
def Mbs2 (w : World) (p q : Option Addr) (ms : List Mb) : Prop := ∀ i m, ms[i]? = some m → (∃ g o, p = some ⟨g, o, none⟩ ∧ w.cell? ⟨g, o + i, none⟩ = some (sv m.name)) ∧ ∃ g o, q = some ⟨g, o, none⟩ ∧ w.cell? ⟨g, o + i, none⟩ = some (.float .f64 m.bits)
set_option maxRecDepth 100000 in
set_option maxHeartbeats 4000000 in
theorem dscored_ok {w : World} (p q : Option Addr) (c c2 : Nat) (ms : List Mb) (hp : Mbs2 w p q ms) (hn : ms.length ≤ 100) (hs : ∀ m ∈ ms, m.name.length ≤ 10000 ∧ ToldD m.bits m.text) :
    Calls Tryd.prog 18 #[.slice p ms.length c, .slice q ms.length c2] w fun e w' => e = .returned (.string (bs (scoredL ms))) ∧ Still w w' := by
  have hD := ddigits_nat ms.length (by omega)
  have hd := dec_small ms.length (by omega)
  unfold scoredL
  rw [line2_len]
  obtain ⟨d, hdd⟩ : ∃ d, Lib.decDigits ms.length = d := ⟨_, rfl⟩
  rw [hdd] at hD hd ⊢
  obtain ⟨h1, e_h1⟩ : ∃ t, [83,67,79,82,69,68,32] ++ d = t := ⟨_, rfl⟩
  have l_h1 : h1.length ≤ 27 := by rw [← e_h1]; simp; omega
  have a_h1 : ∀ w, (Op.stringOp .add ⟨#[83,67,79,82,69,68,32]⟩ (bs d)).run Tryd.prog w = .ok (.string (bs h1)) w := fun w => by rw [← e_h1]; exact bs_add [83,67,79,82,69,68,32] d (by (try simp only [List.length_cons, List.length_nil]); omega) w
  obtain ⟨h2, e_h2⟩ : ∃ t, h1 ++ [10] = t := ⟨_, rfl⟩
  have l_h2 : h2.length ≤ 28 := by rw [← e_h2]; simp; omega
  have a_h2 : ∀ w, (Op.stringOp .add (bs h1) ⟨#[10]⟩).run Tryd.prog w = .ok (.string (bs h2)) w := fun w => by rw [← e_h2]; exact bs_add h1 [10] (by (try simp only [List.length_cons, List.length_nil]); omega) w
  have he : [83,67,79,82,69,68] ++ 32 :: (d ++ [10]) = h2 := by rw [← e_h2, ← e_h1]; simp
  rw [he]
  obtain ⟨n, hn'⟩ : ∃ n, ms.length = n := ⟨_, rfl⟩
  rw [hn'] at hn hD ⊢
  have H := hide (And.intro hp (And.intro hn' (And.intro hs l_h2)))
  clear hp hs hd hdd hn' he e_h1 e_h2 l_h1 l_h2
  go_enter Tryd.func18, Tryd.ntmps18
  go_wp2_with (first | (go_at_call 40; refine (hD _).mono ?_; rintro e w' ⟨rfl, rfl⟩))
  go_loopw [5, 6] (fun s i wr => ∃ k : Nat, s = sv (h2 ++ ((ms.take k).map fun m => lineL [m.name, m.text]).flatten) ∧ i = iv k ∧ Hid (k ≤ n ∧ Still w' wr)) (fun _ i _ => n - (RowKit.intOf i).toNat)
  case atStart => exact ⟨0, by simp, rfl, hide ⟨Nat.zero_le _, Fr.refl _ _⟩⟩
  case round =>
    obtain ⟨k, rfl, rfl, HJ⟩ := hrel
    have hpl := (unhide H).2.1
    have hlen : ((ms.take k).map fun m => lineL [m.name, m.text]).flatten.length ≤ 100 * 30000 := by
      have h1 := flat_len (fun m : Mb => lineL [m.name, m.text]) 30000 (ms.take k) fun x hx => by
        have h2 := (unhide H).2.2.1 x (List.mem_of_mem_take hx)
        have h3 := h2.2.small
        show (lineL [x.name, x.text]).length ≤ _
        rw [line2_len]; simp; omega
      have h3 : (ms.take k).length ≤ 100 := by rw [List.length_take]; omega
      have := Nat.mul_le_mul_right 30000 h3
      omega
    by_cases hlt : k < n
    · have hlt' : ((k : Int) < n) = True := by simp; omega
      obtain ⟨m, hx⟩ : ∃ x, ms[k]? = some x := ⟨_, List.getElem?_eq_getElem (by rw [(unhide H).2.1]; exact hlt)⟩
      obtain ⟨⟨g, o, rfl, x0⟩, g2, o2, rfl, x1⟩ := (unhide H).1 k m hx
      have hmm := (unhide H).2.2.1 m (List.mem_of_getElem? hx)
      have hfl := flat_take (fun m : Mb => lineL [m.name, m.text]) ms k m hx
      rw [line2_len] at hfl
      obtain ⟨nm, bt, tx⟩ := m
      have c0 := (unhide HJ).2.cell' x0 fun x => x
      have c1 := (unhide HJ).2.cell' x1 fun x => x
      have m1 : nm.length ≤ 10000 := hmm.1
      have hT := hmm.2.ref
      have m2 : tx.length ≤ 40 := hmm.2.small
      have hl2 := (unhide H).2.2.2
      obtain ⟨q, hq⟩ : ∃ q, h2 ++ ((ms.take k).map fun m => lineL [m.name, m.text]).flatten = q := ⟨_, rfl⟩
      have l_q : q.length ≤ 3000100 := by rw [← hq]; simp only [List.length_append]; omega
      obtain ⟨q1, e_q1⟩ : ∃ t, q ++ nm = t := ⟨_, rfl⟩
      have l_q1 : q1.length ≤ 3010100 := by rw [← e_q1]; simp; omega
      have a_q1 : ∀ w, (Op.stringOp .add (bs q) (bs nm)).run Tryd.prog w = .ok (.string (bs q1)) w := fun w => by rw [← e_q1]; exact bs_add q nm (by (try simp only [List.length_cons, List.length_nil]); omega) w
      obtain ⟨q2, e_q2⟩ : ∃ t, q1 ++ [32] = t := ⟨_, rfl⟩
      have l_q2 : q2.length ≤ 3010101 := by rw [← e_q2]; simp; omega
      have a_q2 : ∀ w, (Op.stringOp .add (bs q1) ⟨#[32]⟩).run Tryd.prog w = .ok (.string (bs q2)) w := fun w => by rw [← e_q2]; exact bs_add q1 [32] (by (try simp only [List.length_cons, List.length_nil]); omega) w
      obtain ⟨q3, e_q3⟩ : ∃ t, q2 ++ tx = t := ⟨_, rfl⟩
      have l_q3 : q3.length ≤ 3011101 := by rw [← e_q3]; simp; omega
      have a_q3 : ∀ w, (Op.stringOp .add (bs q2) (bs tx)).run Tryd.prog w = .ok (.string (bs q3)) w := fun w => by rw [← e_q3]; exact bs_add q2 tx (by (try simp only [List.length_cons, List.length_nil]); omega) w
      obtain ⟨q4, e_q4⟩ : ∃ t, q3 ++ [10] = t := ⟨_, rfl⟩
      have l_q4 : q4.length ≤ 3011102 := by rw [← e_q4]; simp; omega
      have a_q4 : ∀ w, (Op.stringOp .add (bs q3) ⟨#[10]⟩).run Tryd.prog w = .ok (.string (bs q4)) w := fun w => by rw [← e_q4]; exact bs_add q3 [10] (by (try simp only [List.length_cons, List.length_nil]); omega) w
      have hq4 : h2 ++ ((ms.take (k + 1)).map fun m => lineL [m.name, m.text]).flatten = q4 := by
        rw [hfl, ← List.append_assoc, hq, ← e_q4, ← e_q3, ← e_q2, ← e_q1]; simp
      rw [hq]
      have HL := hide (And.intro hlt hq4)
      clear hpl
      have hk : k ≤ 1000 := by omega
      clear hlt hx x0 x1 m1 m2 hmm hfl hl2 hq l_q hq4 hlen e_q1 e_q2 e_q3 e_q4 l_q1 l_q2 l_q3 l_q4
      go_wp2_with fail
      go_quiet (first | (go_at_call 44; exact Calls.quiet_of_same (hT _)))
      go_wp2_with fail
      exact ⟨⟨k + 1, by rw [(unhide HL).2], by go_num, hide ⟨by have := (unhide HL).1; omega, (unhide HJ).2.trans ((Fr.refl _ _).drewN _)⟩⟩, by have := (unhide HL).1; simp [RowKit.intOf]; omega⟩
    · have hlt' : ((k : Int) < n) = False := by simp; omega
      obtain rfl : k = n := by have := (unhide HJ).1; omega
      have HQ := hide (show ms.take k = ms from List.take_of_length_le (by rw [(unhide H).2.1]; exact Nat.le_refl _))
      clear hlt hlen hpl
      go_wp2
      go_ret
      exact ⟨by rw [unhide HQ]; rfl, (unhide HJ).2⟩
end Go.Proofs.YticflknfkaoejaaDoor
