/- The iterator of a log: its writes from the end. -/
import Derived.Test.YtamghkabclbkgaaNote
import Derived.OwnWalkIn
import Derived.TacticsInMore
import Derived.LoopNIn
import Derived.LoopIn
import Derived.RangeFuncCalls
namespace Go.Proofs.Ytamghkabclbkgaa
open Go.RowKit

section
variable {w0 w : World} {b : Nat} {L0 L : Lay} {N : Nat} {A : Ab} {lg at_ ws : Nat}

theorem load_int {w : World} {b : Nat} {L : Lay} {A : Ab} (d : DevL w b L A) (hd : A.dead = false) (i : Int) (h0 : 0 ≤ i) (hi : i < A.n * 8) :
    Calls Try.prog 57 #[ptr b, .int .i64 i] w fun e w' => e = .returned (u64 (A.now i.toNat)) ∧ w' = w := by
  obtain ⟨j, rfl⟩ := Int.eq_ofNat_of_zero_le h0
  rw [Int.toNat_natCast]
  exact load_ok d hd j (by omega)

theorem place_int {w : World} (h : LogAt w lg b at_ ws) (ha : at_ ≤ 65536) (i : Int) (h0 : 0 ≤ i) (hi : i ≤ 65536) :
    Calls Try.prog 71 #[ptr lg, .int .i64 i] w fun e w' => e = .returned (.int .i64 ((at_ : Int) + 8 + 2 * i)) ∧ w' = w := by
  obtain ⟨j, rfl⟩ := Int.eq_ofNat_of_zero_le h0
  exact place_ok h ha j (by omega)

/-- What the iterator reads: its boxes, the log, the words of the writes. -/
structure Reads (W : World) (bl bn lg b at_ ws n : Nat) (g : Nat → Int) : Prop where
  cn : W.cell? ⟨bn, 0, none⟩ = some (.int .i64 n)
  cl : W.cell? ⟨bl, 0, none⟩ = some (ptr lg)
  log : LogAt W lg b at_ ws
  dev : ∃ L A, DevL W b L A ∧ A.dead = false ∧ at_ + 8 + 2 * n ≤ A.n * 8 ∧ A.n ≤ 8192 ∧ ∀ j, at_ + 8 ≤ j → j < at_ + 8 + 2 * n → A.now j = g j

/-- The k-th that comes, of n. -/
def come (at_ n : Nat) (g : Nat → Int) (k : Nat) : Value :=
  .agg #[.int .i64 (wrap64 (g (at_ + 8 + 2 * (n - 1 - k)))), u64 (g (at_ + 8 + 2 * (n - 1 - k) + 1))]

attribute [local go_sem] Oper.semAt_some

set_option maxRecDepth 100000 in
set_option maxHeartbeats 1000000 in
theorem iter_ok (bl bn n l : Nat) (g : Nat → Int) (J : Nat → World → Prop) (hn : n ≤ 65536) (hJ : ∀ k W, J k W → Reads W bl bn lg b at_ ws n g) :
    Iter 0 Try.prog 79 #[.pointer (some ⟨bn, 0, none⟩), .pointer (some ⟨bl, 0, none⟩)] (come at_ n g) n l J := by
  intro J' Jx Jp hJJ hdr hY W h0
  have hwd : Fence.wide.depth = none := rfl
  have hwf : ∀ f, Fence.wide.fn f := fun _ => trivial
  have hr0 := hJ 0 W (hJJ 0 W h0)
  have cn := hr0.cn
  have HJ := hide hJ; have HJJ := hide hJJ; have HD := hide hdr; have HY := hide hY; have H0 := hide h0
  clear hJ hJJ hdr hY h0 hr0
  refine callsIn_of_wp Try.func79 rfl trivial ?_ rfl
  simp only [Try.ntmps79, List.size_toArray, List.length_cons, List.length_nil, Nat.reduceAdd, Nat.reduceSub, Array.replicate_succ, Array.replicate_zero, List.push_toArray, List.append_toArray, List.nil_append, List.cons_append]
  gi_wp2
  gi_loopw [4] (fun c wr => ∃ k : Nat, k ≤ n ∧ c = .int .i64 ((n : Int) - 1 - k) ∧ J' k wr) (fun c wr => (intOf c + 1).toNat)
  case atStart => exact ⟨0, Nat.zero_le _, by simp, unhide H0⟩
  case round =>
    obtain ⟨k, hk, rfl, hj⟩ := hrel
    have hr := unhide HJ k wr (unhide HJJ k wr hj)
    by_cases hlt : k < n
    · obtain ⟨L1, A1, d1, dd, hb, hb2, hg⟩ := hr.dev
      have cl := hr.cl
      have c0 := hr.log.c0
      have HR := hide hr; have HJ1 := hide hj; have HD1 := hide d1; have HDD := hide dd; have HG := hide hg
      clear hr hj d1 dd hg cn H0
      gi_wp2_with (gi_at_call 71; refine (callsIn_wide.2 (place_int (unhide HR).log (by omega) _ (by omega) (by omega))).mono ?_; rintro e w' ⟨rfl, hh⟩; replace hh := hh.symm; subst hh)
      refine region_tail 16 (by kernel_rfl) (by kernel_rfl) (by kernel_rfl) ?_
      simp only [List.take_succ_cons, List.take_zero, List.drop_succ_cons, List.drop_zero]
      repeat (gi_big_quiet_step (first | (gi_at_call 57; exact CallsIn.quiet_of_same (callsIn_wide.2 (load_int ((unhide HD1).keptF ((Fr.refl _ wr).drewN _)) (unhide HDD) _ (by omega) (by omega))))))
      refine wpQuietIn_nil ?_
      rintro _ ⟨nq, rfl⟩
      obtain ⟨fn, tmps, assign, body, hy, hR⟩ := unhide HY k (wr.drewN nq) hlt (unhide HD k wr nq (unhide HJ1))
      have e1 := unhide HG (at_ + 8 + 2 * (n - 1 - k)) (by omega) (by omega)
      have e2 := unhide HG (at_ + 8 + 2 * (n - 1 - k) + 1) (by omega) (by omega)
      unfold come at hy
      rw [← e1, ← e2] at hy
      have HRR := hide hR
      clear e1 e2 HD1 HDD HG c0 cl hR HR HJ1
      gi_wp2
      refine (unhide HRR).mono ?_
      clear hy HRR
      rintro e W3 (⟨rfl, hj3⟩ | ⟨rfl, hx3⟩ | ⟨ch, rfl, hp3⟩)
      · have HJ3 := hide hj3
        clear hj3
        gi_wp2
        go_roundw
        case rel => exact ⟨k + 1, by omega, by simp; omega, unhide HJ3⟩
        case measure => simp [intOf]; omega
      · have HX3 := hide hx3
        clear hx3
        gi_wp2
        refine bodyPost_ret (results_none rfl _ _ _) rfl ?_
        exact .inr (.inl ⟨_, rfl, unhide HX3⟩)
      · exact ⟨rfl, .inr (.inr ⟨ch, rfl, hp3⟩)⟩
    · obtain rfl : k = n := by omega
      have HJ1 := hide hj
      clear hj hr cn H0
      gi_wp2
      go_end0
      exact .inl ⟨_, rfl, unhide HJ1⟩
end
end Go.Proofs.Ytamghkabclbkgaa
