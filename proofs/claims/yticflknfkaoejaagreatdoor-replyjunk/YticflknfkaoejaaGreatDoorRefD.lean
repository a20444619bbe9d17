/- The document's own reading of digits to the base ten. -/
import Derived.Test.YticflknfkaoejaaGreatDoorRefU
import Derived.Test.YticflknfkaoejaaGreatDoorDv
namespace Go.Proofs.YticflknfkaoejaaGreatDoor
open Go.RowKit

/-- Digits without noughts ahead, at most fifteen. -/
def Digs (l : List UInt8) : Prop := l ≠ [] ∧ (∀ c ∈ l, 48 ≤ c.toNat ∧ c.toNat ≤ 57) ∧ l.length ≤ 15 ∧ (l[0]? ≠ some 48 ∨ l.length = 1)
/-- How the document's own reading of digits ends. -/
def DigsEnd (l : List UInt8) (e : Ending) : Prop := (Digs l → e = .returned (.tuple #[.int .u64 (dv l 0), .bool true])) ∧ (¬ Digs l → ∃ v : Nat, e = .returned (.tuple #[.int .u64 v, .bool false]))

set_option maxRecDepth 100000 in
set_option maxHeartbeats 2000000 in
theorem digs_ok (d : ByteArray) (hd : d.size < 9223372036854775807) (w : World) : Calls Tryz.prog 35 #[.string d] w fun e w' => DigsEnd d.data.toList e ∧ w' = w := by
  obtain ⟨T, hT⟩ : ∃ T, d.data.toList = T := ⟨_, rfl⟩
  rw [hT]
  obtain ⟨N, hN⟩ : ∃ N, d.size = N := ⟨_, rfl⟩
  have hl : T.length = N := by rw [← hN, ← hT]; simp
  have ixT : ∀ (i : Nat) (c : UInt8), T[i]? = some c → ∀ w, (Instr.index 9 (.string d) (.int .i64 (i : Int))).run Tryz.prog w = .ok (.int .u8 (c.toNat : Int)) w := fun i c hc w => ix_of d i c (by rw [hT]; exact hc) w
  have IX := Lib.hid ixT
  have HL := Lib.hid hl
  have HD := Lib.hid hd
  clear ixT hT hl hd
  go_enter Tryz.func35, Tryz.ntmps35
  go_wp2_with fail
  go_loop [4, 5] (fun vn vi => ∃ n i : Nat, vn = .int .u64 n ∧ vi = .int .i64 i ∧ Hid (i ≤ N ∧ i ≤ 15 ∧ (∀ (j : Nat) (c : UInt8), j < i → T[j]? = some c → 48 ≤ c.toNat ∧ c.toNat ≤ 57) ∧ n < 10 ^ i ∧ dv (T.drop i) n = dv T 0)) (fun _ vi => N - (RowKit.intOf vi).toNat)
  case atStart => exact ⟨0, 0, rfl, rfl, Lib.hid ⟨by omega, by omega, fun j c hj => by omega, by omega, by simp⟩⟩
  case round =>
    obtain ⟨n, i, rfl, rfl, HI⟩ := hrel
    obtain ⟨i1, i2, i3, i4, i5⟩ := HI.out
    have hl := HL.out
    by_cases hi : i < N
    · have hz : ((i : Int) < (N : Int)) = True := by simp; omega
      have hlt : i < T.length := by omega
      have hcc : T[i]? = some T[i] := List.getElem?_eq_getElem hlt
      have hdr : T.drop i = T[i] :: T.drop (i + 1) := List.drop_eq_getElem_cons hlt
      have hmem : T[i] ∈ T := List.getElem_mem hlt
      generalize T[i] = c at *
      have hix := IX.out i c hcc
      have hm : N - (i + 1) < N - i := by omega
      have hc256 := c.toNat_lt
      by_cases good : (48 ≤ c.toNat ∧ c.toNat ≤ 57) ∧ i < 15
      · obtain ⟨x, hx⟩ : ∃ x, c.toNat = 48 + x := ⟨c.toNat - 48, by omega⟩
        have h10 : 10 ^ i ≤ 10 ^ 14 := Nat.pow_le_pow_right (by omega) (by omega)
        have h14 : (10 : Nat) ^ 14 = 100000000000000 := by decide
        have L := Lib.hid (show i + 1 ≤ N ∧ i + 1 ≤ 15 ∧ (∀ (j : Nat) (c : UInt8), j < i + 1 → T[j]? = some c → 48 ≤ c.toNat ∧ c.toNat ≤ 57) ∧ 10 * n + x < 10 ^ (i + 1) ∧ dv (T.drop (i + 1)) (10 * n + x) = dv T 0 from ⟨by omega, by omega, fun j c' hj hc' => by
          rcases Nat.lt_or_eq_of_le (Nat.le_of_lt_succ hj) with h | h
          · exact i3 j c' h hc'
          · subst h; rw [hcc] at hc'; cases hc'; exact good.1, by rw [Nat.pow_succ]; omega, by rw [← i5, hdr, dv, hx, show 48 + x - 48 = x by omega]⟩)
        rw [hx] at hix
        have x9 : x ≤ 9 := by omega
        have n14 : n < 100000000000000 := by omega
        have i14 : i < 15 := good.2
        have k1 : (48 + (x : Int) < 48) = False := by simp only [eq_iff_iff, iff_false]; omega
        have k2 : ((57 : Int) < 48 + (x : Int)) = False := by simp only [eq_iff_iff, iff_false]; omega
        have k3 : ((15 : Int) ≤ (i : Int)) = False := by simp only [eq_iff_iff, iff_false]; omega
        clear HI i1 i2 i3 i4 i5 hcc hdr hlt hl good hx hc256 h10 h14 hmem
        go_wp2
        exact ⟨⟨10 * n + x, i + 1, congrArg (Value.int .u64) (by omega), rfl, L⟩, hm⟩
      · have FIN := Lib.hid (show ∀ e : Ending, e = .returned (.tuple #[.int .u64 0, .bool false]) → DigsEnd T e from fun e he => ⟨fun hD => absurd (show (48 ≤ c.toNat ∧ c.toNat ≤ 57) ∧ i < 15 from ⟨hD.2.1 c hmem, by have := hD.2.2.1; omega⟩) good, fun _ => ⟨0, he⟩⟩)
        have kk : (((c.toNat : Int) < 48) = True) ∨ (((c.toNat : Int) < 48) = False ∧ ((57 : Int) < (c.toNat : Int)) = True) ∨ (((c.toNat : Int) < 48) = False ∧ ((57 : Int) < (c.toNat : Int)) = False ∧ ((15 : Int) ≤ (i : Int)) = True) := by
          simp only [eq_iff_iff, iff_true, iff_false]; omega
        generalize c.toNat = y at *
        clear HI i1 i2 i3 i4 i5 hcc hdr hlt hl good hmem
        rcases kk with q1 | ⟨q1, q2⟩ | ⟨q1, q2, q3⟩
        all_goals
          go_wp2
          go_ret2
          exact ⟨FIN.out _ rfl, rfl⟩
    · obtain rfl : i = N := by omega
      have hz : ((i : Int) < (i : Int)) = False := by simp
      have hdn : n = dv T 0 := by rw [← i5, List.drop_eq_nil_of_le (by omega)]; rfl
      have hall : ∀ c ∈ T, 48 ≤ c.toNat ∧ c.toNat ≤ 57 := fun c hc => by
        obtain ⟨j, hj, e⟩ := List.getElem_of_mem hc
        exact i3 j c (by omega) (by rw [← e]; exact List.getElem?_eq_getElem hj)
      by_cases h0 : i = 0
      · subst h0
        have FIN := Lib.hid (show ∀ e : Ending, e = .returned (.tuple #[.int .u64 n, .bool false]) → DigsEnd T e from fun e he => ⟨fun hD => absurd (List.eq_nil_of_length_eq_zero hl) hD.1, fun _ => ⟨n, he⟩⟩)
        clear HI i1 i2 i3 i4 i5 hall hl hdn
        go_wp2
        go_ret2
        exact ⟨FIN.out _ rfl, rfl⟩
      · obtain ⟨c0, hc0⟩ : ∃ c, T[0]? = some c := ⟨T[0], List.getElem?_eq_getElem (by omega)⟩
        have hi0 : ∀ w, (Instr.index 9 (.string d) (.int .i64 0)).run Tryz.prog w = .ok (.int .u8 (c0.toNat : Int)) w := IX.out 0 c0 hc0
        have hne : T ≠ [] := fun e => by rw [e] at hl; simp at hl; omega
        have hpos : (0 < i) = True := by simp; omega
        by_cases g : c0.toNat ≠ 48 ∨ i = 1
        · have FIN := Lib.hid (show ∀ e : Ending, e = .returned (.tuple #[.int .u64 n, .bool true]) → DigsEnd T e from fun e he => ⟨fun _ => by rw [he, hdn], fun hD => absurd (show Digs T from ⟨hne, hall, by omega, by
            rcases g with g | g
            · left; rw [hc0]; intro e; cases e; exact g (by decide)
            · right; omega⟩) hD⟩)
          have kk : (((c0.toNat : Int) != 48) = true) ∨ (c0.toNat = 48 ∧ i = 1) := by
            by_cases e : c0.toNat = 48
            · right; exact ⟨e, by omega⟩
            · left; simp; omega
          generalize c0.toNat = y at *
          clear HI i1 i2 i3 i4 i5 hall hl hdn hc0 hne g h0
          rcases kk with q1 | ⟨q1, q2⟩
          · go_wp2
            go_ret2
            exact ⟨FIN.out _ rfl, rfl⟩
          · subst q1 q2
            go_wp2
            go_ret2
            exact ⟨FIN.out _ rfl, rfl⟩
        · have FIN := Lib.hid (show ∀ e : Ending, e = .returned (.tuple #[.int .u64 n, .bool false]) → DigsEnd T e from fun e he => ⟨fun hD => by
            rcases hD.2.2.2 with k | k
            · have : c0.toNat = 48 := by omega
              exact absurd (by rw [hc0]; congr 1; exact UInt8.toNat_inj.1 (by rw [this]; rfl)) k
            · omega, fun _ => ⟨n, he⟩⟩)
          have q1 : c0.toNat = 48 := by omega
          have q2 : ((i : Int) == 1) = false := by simp; omega
          generalize c0.toNat = y at *
          clear HI i1 i2 i3 i4 i5 hall hl hdn hc0 hne g h0
          subst q1
          go_wp2
          go_ret2
          exact ⟨FIN.out _ rfl, rfl⟩
end Go.Proofs.YticflknfkaoejaaGreatDoor
