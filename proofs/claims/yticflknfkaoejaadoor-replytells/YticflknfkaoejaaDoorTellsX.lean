/- ReplyTells: what came in, as the row's frame tells it. -/
import Derived.Test.YticflknfkaoejaaDoorTellsW
namespace Go.Proofs.YticflknfkaoejaaDoor
open Go.RowKit

/-- The numbers of a row of words. -/
theorem IsRow.words {w : World} {a : Option Addr} {len cap : Nat} {zs : List Int} (h : IsRow .u64 w a len cap zs) : ∃ f : Nat → Nat, (∀ k, f k < 18446744073709551616) ∧ len ≤ maxLen ∧ ∀ k, k < len → ∃ xb xo, a = some ⟨xb, xo, none⟩ ∧ w.cell? ⟨xb, xo + k, none⟩ = some (.int .u64 (f k : Nat)) := by
  rcases h with ⟨_, rfl, _, _⟩ | ⟨x, rfl, hl, hm, hz, hc, hw⟩
  · exact ⟨fun _ => 0, fun _ => Nat.zero_lt_succ _, Nat.zero_le _, fun k hk => by omega⟩
  · refine ⟨fun k => (zs.getD k 0).toNat % 18446744073709551616, fun k => Nat.mod_lt _ (by decide), Nat.le_trans hl hm, fun k hk => ?_⟩
    obtain ⟨xb, xo, rfl, c⟩ := flat_addr (V := fun i => .int .u64 (zs.getD i 0)) (fun i (hi : i < len) => hc i (by omega)) k hk
    refine ⟨xb, xo, rfl, ?_⟩
    have hin : zs.getD k 0 ∈ zs := by
      rw [List.getD_eq_getElem?_getD, List.getElem?_eq_getElem (by omega)]
      exact List.getElem_mem _
    obtain ⟨n, e, hn⟩ := wf_u64 _ (hw _ hin)
    rw [c]
    simp only [e, Int.toNat_natCast]
    rw [Nat.mod_eq_of_lt hn]
theorem IsRow.range {w : World} {a : Option Addr} {len cap : Nat} {zs : List Int} (h : IsRow .i64 w a len cap zs) : ∀ k, k < len → -9223372036854775808 ≤ zs.getD k 0 ∧ zs.getD k 0 ≤ 9223372036854775807 := by
  intro k hk
  rcases h with ⟨_, rfl, _, _⟩ | ⟨x, rfl, hl, hm, hz, hc, hw⟩
  · omega
  · have hm : zs.getD k 0 ∈ zs := by
      rw [List.getD_eq_getElem?_getD, List.getElem?_eq_getElem (by omega)]
      exact List.getElem_mem _
    exact wf_i64 _ (hw _ hm)
theorem tells_ok (e : Int) (b : Option Addr) (blen bcap : Nat) (bz : List Int) {W : World} (hb : IsRow .u8 W b blen bcap bz) (l : Option Addr) (llen lcap : Nat) (Q : Nat → PairQ) (hQ : PairsAt W l llen Q) (nm : Option Addr) (nmlen nmcap : Nat) (S : Nat → List UInt8) (hS : StrsAt W nm nmlen S) (hnc : nmlen ≤ nmcap ∧ nmcap ≤ maxLen)
    (bt : Option Addr) (btlen btcap : Nat) (btz : List Int) (hbt : IsRow .u64 W bt btlen btcap btz) (n : Option Addr) (nlen ncap : Nat) (nz : List Int) (hn : IsRow .i64 W n nlen ncap nz) (yes : Bool) (hK : Kn W W) :
    Calls Tryd.prog 3 #[iv e, .slice b blen bcap, .slice l llen lcap, .slice nm nmlen nmcap, .slice bt btlen btcap, .slice n nlen ncap, .bool yes] W fun e W' => e = .returned (.bool true) ∧ Below W.heap.size W W' := by
  obtain ⟨f, h1, _, h3⟩ := hbt.words
  exact tells_law e b blen bcap (byt bz blen) l llen lcap Q nm nmlen nmcap S bt btlen btcap f n nlen ncap _ yes hb.sl.1 hQ hS hnc.1 hnc.2 h1 h3 hn.nums.1 hn.range hK
end Go.Proofs.YticflknfkaoejaaDoor
