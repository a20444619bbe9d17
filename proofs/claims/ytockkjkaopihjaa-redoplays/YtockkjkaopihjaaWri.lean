/- The law's own writes. -/
import Derived.Test.YtockkjkaopihjaaBox
namespace Go.Proofs.Ytockkjkaopihjaa
open Go.RowKit

/-- Writes of words 64 to 255, at most 24, in a row of one's own. -/
structure Wrote (w0 : World) (xs : List (Int × Int)) (v : Value) (w : World) : Prop where
  len : xs.length ≤ 24
  out : ∀ x ∈ xs, 64 ≤ x.1 ∧ x.1 ≤ 255
  row : w.ownsRow w0.heap.size 32 2 v xs.length (wcells xs)
  fr : Fr (fun _ => False) w0 w

set_option maxHeartbeats 2000000 in
theorem writes_ok (a : Option Addr) (len cap : Nat) (mark : Int) (w : World) (zs : Nat → Int) (hz : Nums w a len zs) (hlen : len ≤ maxLen) :
    Calls Try.prog 17 #[.slice a len cap, .int .u64 mark] w fun e w' => ∃ v xs, e = .returned v ∧ Wrote w xs v w' := by
  have HZ := hide hz
  clear hz
  unfold maxLen at hlen
  go_enter Try.func17, Try.ntmps17
  go_wp2_with fail
  go_loopw [5, 6] (fun v i wr => ∃ (k : Nat) (xs : List (Int × Int)), k ≤ len ∧ k ≤ 24 ∧ i = .int .i64 k ∧ xs.length = k ∧ Wrote w xs v wr) (fun v i wr => 24 - (intOf i).toNat)
  case atStart =>
    exact ⟨0, [], by omega, by omega, rfl, rfl, by simp, by simp, World.ownsRow_nil _ _ _ _, Fr.refl _ _⟩
  case round =>
    obtain ⟨k, xs, hk1, hk2, rfl, hxl, hj⟩ := hrel
    by_cases hlt : k < len ∧ k < 24
    · obtain ⟨hl1, hl2⟩ := hlt
      obtain ⟨xb, xo, rfl, hc⟩ := unhide HZ k hl1
      have cz : wr.cell? ⟨xb, xo + k, none⟩ = some (.int .i64 (zs k)) := hj.fr.cell' hc (fun h => h)
      have hi := info_wr
      obtain ⟨i0, hi0⟩ : ∃ i, Try.prog.info? 32 = some i := by
        cases h : Try.prog.info? 32 with
        | none => rw [h] at hi; simp at hi
        | some i => exact ⟨i, rfl⟩
      rw [hi0] at hi
      simp only [Option.map_some, Option.some.injEq, Prod.mk.injEq] at hi
      have hm := mask_i64 (zs k) 65535 (by omega)
      have hml := msk_le (zs k) 65535
      generalize msk (zs k) 65535 = m at *
      have m7 : bits .and .i64 (zs k) 65535 = (m : Int) := hm
      have sz1 : w.heap.size ≤ wr.heap.size := hj.fr.size
      have HI := hide (And.intro hi0 hi); have HR := hide hj.row; have HJ := hide hj; have HXL := hide hxl
      clear hi0 hi hc hj hm hxl
      go_wp2_with (at_builtin; refine wpList_append_own_at _ rfl _ _ 30 rfl w.heap.size 32 i0 (.agg #[.int .i64 0, .int .u64 0]) 2 16 Try.underlying30 (unhide HI).1 (unhide HI).2.1 (unhide HI).2.2.1 (unhide HI).2.2.2 rfl (by decide) _ xs.length (wcells xs) rfl ((unhide HR).alloc _) _ 1 1 [.int .i64 (64 + (m : Int) % 192), u64 (IntKind.u64.wrap (mark + k))] rfl rfl ?c1 ?c2 ?c3 ?c4 ?c5 ?_)
      case c1 => exact pair_news _ _ _ _
      case c2 => intro u hu; simp at hu; rcases hu with rfl | rfl <;> rfl
      case c3 => unfold maxLen; have := unhide HXL; omega
      case c4 => have := unhide HXL; omega
      case c5 => simp; have := unhide HXL; omega
      intro v' w6 hown hgrow _ _
      have j := unhide HJ
      have fr6 : Fr (fun _ => False) w w6 := j.fr.trans' (((Fr.refl (fun r => some r = u5.ownBlock) wr).alloc _).grown hgrow (fun r e => .inl e.symm)) (fun r hr => .inr ((unhide HR).lt r hr.symm).1)
      have hxl := unhide HXL
      have W6 : Wrote w (xs ++ [(64 + (m : Int) % 192, IntKind.u64.wrap (mark + k))]) v' w6 := by
        refine ⟨by simp; omega, fun x hx => ?_, ?_, fr6⟩
        · rcases List.mem_append.1 hx with h | h
          · exact j.out x h
          · obtain rfl : x = _ := by simpa using h
            constructor <;> (simp only []; omega)
        · rw [List.length_append, wcells_app]; exact hown
      have HW6 := hide W6
      clear W6 hown hgrow fr6 j hxl HJ HR cz
      go_wp2
      exact ⟨⟨k + 1, _, by omega, by omega, by go_num, by rw [List.length_append, unhide HXL]; rfl, unhide HW6⟩, by simp [intOf]; omega⟩
    · have HJ := hide hj
      clear hj
      rcases (show len ≤ k ∨ (k < len ∧ 24 ≤ k) by omega) with h1 | ⟨h1, h2⟩
      all_goals
        go_wp2
        go_ret
        exact ⟨_, xs, rfl, unhide HJ⟩
end Go.Proofs.Ytockkjkaopihjaa
