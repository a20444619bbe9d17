/- TxAborts, walked. -/
import Derived.Test.YtamghkabclbkgaaOps
namespace Go.Proofs.Ytamghkabclbkgaa
open Go.RowKit

theorem arr_zero : arr 16 (fun _ => 0) = #[u64 0, u64 0, u64 0, u64 0, u64 0, u64 0, u64 0, u64 0, u64 0, u64 0, u64 0, u64 0, u64 0, u64 0, u64 0, u64 0] := by kernel_rfl
theorem mask15 (z : Int) : bits .and .i64 z 15 = (msk z 15 : Int) := mask_i64 z 15 (by omega)
theorem put_len (P : List (Int × Int)) (j v : Int) : (put P j v).length ≤ P.length + 1 := by
  unfold put
  split
  · rw [List.length_set]; omega
  · simp
theorem ne_nil_stor (b : Nat) (w : World) : (binOp .neq 24 (ptr b) (.pointer none)).run Try.prog w = .ok (.bool true) w := by kernel_rfl

/-- Between two ops: what is committed is u, what is read is v. -/
structure AbS (w : World) (g5 g6 sb b k : Nat) (wr : World) (T : Tay) (A : Ab) (P : List (Int × Int)) (N : Nat) (f base u v : Nat → Int) : Prop where
  hN : N * 8 = 12400 + 608
  hd : Hold w (fun r => r = g5 ∨ r = g6) wr sb b 608 T A P false
  c : Calm N True A (12292 + 30729 * (k : Int)) f
  cl : Clean 0 12304 base f
  a5 : ArrAt wr g5 u
  a6 : ArrAt wr g6 v
  hu : ∀ j, j < 16 → base (12400 + j) = u j
  hv : ∀ j, j < 16 → homed P base (12400 + j) = v j
  few : P.length ≤ k

theorem AbS.agrees {w wr : World} {g5 g6 sb b k : Nat} {T : Tay} {A : Ab} {P : List (Int × Int)} {N : Nat} {f base u v : Nat → Int} (s : AbS w g5 g6 sb b k wr T A P N f base u v) : agree (says P A) v 16 = true := by
  unfold agree says
  simp only [decide_eq_true_eq]
  intro j hj
  rw [← s.hv j hj]
  refine homed_again _ _ _ _ (.inl ?_)
  rw [s.c.now, s.cl.out _ (by omega)]

set_option maxRecDepth 100000 in
set_option maxHeartbeats 8000000 in
theorem aborts_ok (a : Option Addr) (len cap : Nat) (w : World) (z : Nat → Op7) (hz : OpsAt w a len z) (hlen : len ≤ maxLen) :
    Calls Try.prog 3 #[.slice a len cap] w fun e w' => e = .returned (.bool true) ∧ Below w.heap.size w w' := by
  have K : Calls Try.prog 9 #[.int .i64 13008] w _ := law_open 608 1626 (by omega) (by omega) (by omega) w
  have HK := hide K; have HZ := hide hz
  have h1 := eq_nil_stor
  have AW := awake_ok
  have HA := alloc_arr
  unfold maxLen at hlen
  clear K hz
  go_enter Try.func3, Try.ntmps3
  go_wp2_with fail
  refine (unhide HK).mono ?_
  clear HK
  rintro e w1 ⟨b, sb, T, A, rfl, o⟩
  obtain ⟨N, f, hN, c, k⟩ := o.calm
  obtain ⟨g5, hg5⟩ : ∃ g5, w1.heap.size = g5 := ⟨_, rfl⟩
  obtain ⟨W, hW⟩ : ∃ W, (w1.alloc (.cells (arr 16 fun _ => 0) 29)).alloc (.cells (arr 16 fun _ => 0) 29) = W := ⟨_, rfl⟩
  have z1 : (w1.alloc (.cells (arr 16 fun _ => 0) 29)).heap.size = g5 + 1 := by rw [← hg5]; simp
  have S0 : AbS w g5 (g5 + 1) sb b 0 W T A [] N f (fun _ => 0) (fun _ => 0) (fun _ => 0) := by
    refine ⟨hN, hW ▸ ((o.hold.more _).more _).sub (fun k hk => ?_), c.more (by omega), k, ?_, ?_, fun j hj => rfl, fun j hj => rfl, by simp⟩
    · rcases hk with hk | hk
      · exact .inl (.inr (hk.trans hg5.symm))
      · exact .inr (hk.trans z1.symm)
    · have := (ArrAt.new w1 (fun _ => 0)).kept ((Fr.refl (fun _ => False) _).alloc (.cells (arr 16 fun _ => 0) 29)) (fun x => x)
      rw [hW, hg5] at this
      exact this
    · have := ArrAt.new (w1.alloc (.cells (arr 16 fun _ => 0) 29)) (fun _ => 0)
      rw [hW, z1] at this
      exact this
  have HS0 := hide S0; have HW := hide hW; have HG5 := hide hg5
  clear S0 o c k hW z1
  go_wp2_with (first | (refine Great.wpList_allocTo rfl _ rfl _ _ (alloc_arr _) ?_) | fail)
  clear HA
  have hW' := unhide HW
  rw [arr_zero] at hW'
  rw [hW']
  clear hW'
  clear hg5
  go_loopw [7] (fun i wr => ∃ k : Nat, k ≤ len ∧ k ≤ 60 ∧ i = .int .i64 k ∧ ∃ T A P N f base u v, AbS w g5 (g5 + 1) sb b k wr T A P N f base u v) (fun i wr => 60 - (intOf i).toNat)
  case atStart => exact ⟨0, by omega, by omega, rfl, T, A, [], N, f, _, _, _, unhide HS0⟩
  case round =>
    clear HS0 HW
    obtain ⟨k, hk1, hk2, rfl, T, A, P, N, f, base, u, v, S⟩ := hrel
    by_cases hlt : k < len ∧ k < 60
    · obtain ⟨hl1, hl2⟩ := hlt
      obtain ⟨xb, xo, rfl, q0, q1, q2⟩ := unhide HZ k hl1
      have c0 := S.hd.fr.cell' q0 (fun x => x)
      have c1 := S.hd.fr.cell' q1 (fun x => x)
      have c2 := S.hd.fr.cell' q2 (fun x => x)
      generalize z k = zz at c0 c1 c2
      obtain ⟨kd, i0, v0⟩ := zz
      simp only [] at c0 c1 c2
      obtain ⟨W1, hW1⟩ : ∃ W1, wr.alloc (.cells #[.int .i64 kd, .int .i64 i0, .int .u64 v0] 31) = W1 := ⟨_, rfl⟩
      have fW1 : Still wr W1 := hW1 ▸ (Fr.refl _ wr).alloc _
      have ob : W1.heap[wr.heap.size]? = some (.cells #[.int .i64 kd, .int .i64 i0, .int .u64 v0] 31) := hW1 ▸ heap_alloc_new wr _
      have no : ¬ tfoot sb b T wr.heap.size := fun x => by have := S.hd.st.lt _ x; omega
      have g5lt : g5 < wr.heap.size ∧ g5 + 1 < wr.heap.size := ⟨(S.hd.xl _ (.inl rfl)).2, (S.hd.xl _ (.inr rfl)).2⟩
      have d0 := cell_of_obj ob 0; have d1 := cell_of_obj ob 1; have d2 := cell_of_obj ob 2
      have HS := hide S; have HF1 := hide fW1; have HOB := hide ob; have HNO := hide no
      clear S fW1 ob no q0 q1 q2
      rcases (show kd = 1 ∨ kd = 2 ∨ (kd ≠ 1 ∧ kd ≠ 2) by omega) with rfl | rfl | ⟨hn1, hn2⟩
      · have S := unhide HS
        have few := S.few
        have K := t_commit (S.hd.st.still (unhide HF1)) S.c S.cl (by omega)
        have HK := hide K
        clear K S
        go_wp2_with fail
        refine (unhide HK).mono ?_
        clear HK
        rintro e w2 (⟨rfl, T3, A3, o2, f3, c3, k3⟩ | ⟨_, _, _, _, hn, _⟩)
        rotate_left
        · exact absurd trivial hn
        have S := unhide HS
        have hd2 := ((S.hd.still (unhide HF1))).call o2
        have n5 := S.hd.ap _ (.inl rfl); have n6 := S.hd.ap _ (.inr rfl)
        have a5 := (S.a5.kept (unhide HF1) (fun x => x)).kept o2.fr n5
        have a6 := (S.a6.kept (unhide HF1) (fun x => x)).kept o2.fr n6
        have ob2 := o2.fr.obj (unhide HOB) (unhide HNO)
        have r5 : w2.heap[g5]? = some (.cells (arr 16 u) 29 (0, 0)) := a5
        have r6 : w2.heap[g5 + 1]? = some (.cells (arr 16 v) 29 (0, 0)) := a6
        obtain ⟨w3, hw3⟩ : ∃ w3, w2.setRow g5 (arr 16 v) = w3 := ⟨_, rfl⟩
        have fr3 : Fr (fun r => r = g5) w2 w3 := hw3 ▸ Fr.setRow _ _ _
        have S3x : AbS w g5 (g5 + 1) sb b (k + 1) w3 T3 A3 [] N f3 (homed P base) v v := by
          refine ⟨S.hN, hd2.var fr3 (fun r hr => .inl hr), c3.more (by omega), k3, hw3 ▸ setRow_heap _ _ _ _ _ _ r5, a6.kept fr3 (by omega), fun j hj => S.hv j hj, fun j hj => S.hv j hj, by simp⟩
        have ob3x := fr3.obj ob2 (by omega)
        obtain ⟨P3, hP3⟩ : ∃ P3 : List (Int × Int), P3 = [] := ⟨_, rfl⟩
        obtain ⟨N3, hN3⟩ : ∃ N3, N = N3 := ⟨_, rfl⟩
        obtain ⟨base3, hb3⟩ : ∃ base3, homed P base = base3 := ⟨_, rfl⟩
        obtain ⟨u3, hu3⟩ : ∃ u3, v = u3 := ⟨_, rfl⟩
        obtain ⟨v3, hv3⟩ : ∃ v3, v = v3 := ⟨_, rfl⟩
        have S3 : AbS w g5 (g5 + 1) sb b (k + 1) w3 T3 A3 P3 N3 f3 base3 u3 v3 := by rw [hP3, ← hN3, ← hb3, ← hu3, ← hv3]; exact S3x
        have ob3 := ob3x
        clear S S3x ob3x hd2 a5 a6 o2 c3 k3 n5 n6 HS HF1 HOB HNO hW1 d0 d1 d2 hN3 hb3 hu3 hv3 fr3 c0 c1 c2 ob2
        have TL := tells_ok v3 S3.hd.st S3.c.dead (by omega)
        rw [S3.agrees] at TL
        have e0 := cell_of_obj ob3 0
        have r63 : w3.heap[g5 + 1]? = some (.cells (arr 16 v3) 29 (0, 0)) := S3.a6
        have HTL := hide TL; have HS3 := hide S3
        clear TL S3 ob3
        go_wp2_with (first | (refine wpList_load_row rfl 29 _ rfl (g5 + 1) rfl 29 (arr 16 v) (0, 0) _ r6 Try.underlying29 rfl (info_arr _) ?_) | (refine wpList_store_row rfl 29 _ _ rfl g5 (arr 16 v) rfl rfl 29 (arr 16 u) r5 (info_arr _) (by rw [arr_size, arr_size]) (arr_one _ _) ?_; rw [hw3]) | (refine wpList_load_row rfl 29 _ rfl (g5 + 1) rfl 29 (arr 16 v3) (0, 0) _ r63 Try.underlying29 rfl (info_arr _) ?_) | fail)
        refine (unhide HTL).mono ?_
        clear HTL r63
        rintro e w4 ⟨rfl, f4⟩
        have e4 := f4.cell' e0 (fun x => x)
        have hd4 := (unhide HS3).hd.still f4
        have PD4 := t_pending hd4.st
        have S4 : AbS w g5 (g5 + 1) sb b (k + 1) w4 T3 A3 P3 N3 f3 base3 u3 v3 := { unhide HS3 with hd := hd4, a5 := (unhide HS3).a5.kept f4 (fun x => x), a6 := (unhide HS3).a6.kept f4 (fun x => x) }
        have HS4 := hide S4
        clear hd4 f4 HS3 e0 S4
        rw [hP3] at PD4
        have HPD4 := hide PD4
        clear PD4
        go_wp2_with (go_at_call 14; refine (unhide HPD4).mono ?_; rintro e w' ⟨rfl, hh⟩; replace hh := hh.symm; subst hh)
        exact ⟨⟨k + 1, by omega, by omega, by go_num, T3, A3, P3, N3, f3, base3, u3, v3, unhide HS4⟩, by simp [intOf]; omega⟩
      · have S := unhide HS
        have K := t_abort (S.hd.st.still (unhide HF1))
        have HK := hide K
        clear K S
        go_wp2_with fail
        refine (unhide HK).mono ?_
        clear HK
        rintro e w2 ⟨rfl, T3, -, o2⟩
        have S := unhide HS
        have hd2 := ((S.hd.still (unhide HF1))).call o2
        have n5 := S.hd.ap _ (.inl rfl); have n6 := S.hd.ap _ (.inr rfl)
        have a5 := (S.a5.kept (unhide HF1) (fun x => x)).kept o2.fr n5
        have a6 := (S.a6.kept (unhide HF1) (fun x => x)).kept o2.fr n6
        have ob2 := o2.fr.obj (unhide HOB) (unhide HNO)
        have r5 : w2.heap[g5]? = some (.cells (arr 16 u) 29 (0, 0)) := a5
        have r6 : w2.heap[g5 + 1]? = some (.cells (arr 16 v) 29 (0, 0)) := a6
        obtain ⟨w3, hw3⟩ : ∃ w3, w2.setRow (g5 + 1) (arr 16 u) = w3 := ⟨_, rfl⟩
        have fr3 : Fr (fun r => r = g5 + 1) w2 w3 := hw3 ▸ Fr.setRow _ _ _
        have S3x : AbS w g5 (g5 + 1) sb b (k + 1) w3 T3 A [] N f base u u := by
          refine ⟨S.hN, hd2.var fr3 (fun r hr => .inr hr), S.c.more (by omega), S.cl, a5.kept fr3 (by omega), hw3 ▸ setRow_heap _ _ _ _ _ _ r6, S.hu, fun j hj => S.hu j hj, by simp⟩
        have ob3x := fr3.obj ob2 (by omega)
        obtain ⟨P3, hP3⟩ : ∃ P3 : List (Int × Int), P3 = [] := ⟨_, rfl⟩
        obtain ⟨N3, hN3⟩ : ∃ N3, N = N3 := ⟨_, rfl⟩
        obtain ⟨A3, hA3⟩ : ∃ A3, A = A3 := ⟨_, rfl⟩
        obtain ⟨f3, hf3⟩ : ∃ f3, f = f3 := ⟨_, rfl⟩
        obtain ⟨base3, hb3⟩ : ∃ base3, base = base3 := ⟨_, rfl⟩
        obtain ⟨u3, hu3⟩ : ∃ u3, u = u3 := ⟨_, rfl⟩
        obtain ⟨v3, hv3⟩ : ∃ v3, u = v3 := ⟨_, rfl⟩
        have S3 : AbS w g5 (g5 + 1) sb b (k + 1) w3 T3 A3 P3 N3 f3 base3 u3 v3 := by rw [hP3, ← hN3, ← hA3, ← hf3, ← hb3, ← hu3, ← hv3]; exact S3x
        have ob3 := ob3x
        clear S S3x ob3x hd2 a5 a6 o2 n5 n6 HS HF1 HOB HNO hW1 d0 d1 d2 hN3 hA3 hf3 hb3 hu3 hv3 fr3 c0 c1 c2 ob2
        have TL := tells_ok v3 S3.hd.st S3.c.dead (by omega)
        rw [S3.agrees] at TL
        have e0 := cell_of_obj ob3 0
        have r63 : w3.heap[g5 + 1]? = some (.cells (arr 16 v3) 29 (0, 0)) := S3.a6
        have HTL := hide TL; have HS3 := hide S3
        clear TL S3 ob3
        go_wp2_with (first | (refine wpList_load_row rfl 29 _ rfl g5 rfl 29 (arr 16 u) (0, 0) _ r5 Try.underlying29 rfl (info_arr _) ?_) | (refine wpList_store_row rfl 29 _ _ rfl (g5 + 1) (arr 16 u) rfl rfl 29 (arr 16 v) r6 (info_arr _) (by rw [arr_size, arr_size]) (arr_one _ _) ?_; rw [hw3]) | (refine wpList_load_row rfl 29 _ rfl (g5 + 1) rfl 29 (arr 16 v3) (0, 0) _ r63 Try.underlying29 rfl (info_arr _) ?_) | fail)
        refine (unhide HTL).mono ?_
        clear HTL r63
        rintro e w4 ⟨rfl, f4⟩
        have e4 := f4.cell' e0 (fun x => x)
        have hd4 := (unhide HS3).hd.still f4
        have PD4 := t_pending hd4.st
        have S4 : AbS w g5 (g5 + 1) sb b (k + 1) w4 T3 A3 P3 N3 f3 base3 u3 v3 := { unhide HS3 with hd := hd4, a5 := (unhide HS3).a5.kept f4 (fun x => x), a6 := (unhide HS3).a6.kept f4 (fun x => x) }
        have HS4 := hide S4
        clear hd4 f4 HS3 e0 S4
        rw [hP3] at PD4
        have HPD4 := hide PD4
        clear PD4
        go_wp2_with (go_at_call 14; refine (unhide HPD4).mono ?_; rintro e w' ⟨rfl, hh⟩; replace hh := hh.symm; subst hh)
        exact ⟨⟨k + 1, by omega, by omega, by go_num, T3, A3, P3, N3, f3, base3, u3, v3, unhide HS4⟩, by simp [intOf]; omega⟩
      · have S := unhide HS
        have few := S.few
        have m15 := mask15 i0
        have l15 := msk_le i0 15
        generalize msk i0 15 = m at *
        have K := t_put (S.hd.st.still (unhide HF1)) S.c.dead m v0 (by omega) (.inl (by omega))
        have HK := hide K
        have b1 : (kd == 1) = false := by simp; exact hn1
        have b2 : (kd == 2) = false := by simp; exact hn2
        clear K S
        go_wp2_with fail
        refine (unhide HK).mono ?_
        clear HK
        rintro e w2 ⟨rfl, T3, -, o2⟩
        have S := unhide HS
        have hd2 := ((S.hd.still (unhide HF1))).call o2
        have n5 := S.hd.ap _ (.inl rfl); have n6 := S.hd.ap _ (.inr rfl)
        have a5 := (S.a5.kept (unhide HF1) (fun x => x)).kept o2.fr n5
        have a6 := (S.a6.kept (unhide HF1) (fun x => x)).kept o2.fr n6
        have ob2 := o2.fr.obj (unhide HOB) (unhide HNO)
        have t1 := cell_of_obj ob2 1; have t2 := cell_of_obj ob2 2
        have q6 := a6.cell m (by omega)
        have z6 := a6.frozen m
        obtain ⟨w3, hw3⟩ : ∃ w3, w2.setCell ⟨g5 + 1, m, none⟩ (.int .u64 v0) = w3 := ⟨_, rfl⟩
        have fr3 : Fr (fun r => r = g5 + 1) w2 w3 := hw3 ▸ (Fr.refl (fun r => r = g5 + 1) w2).setCell (.inl rfl) _
        have once := S.hd.st.once
        have S3x : AbS w g5 (g5 + 1) sb b (k + 1) w3 T3 A (put P (12400 + (m : Int)) v0) N f base u (upd v m v0) := by
          refine ⟨S.hN, hd2.var fr3 (fun r hr => .inr hr), S.c.more (by omega), S.cl, a5.kept fr3 (by omega), hw3 ▸ a6.set m v0, S.hu, fun j hj => ?_, by have := put_len P (12400 + (m : Int)) v0; omega⟩
          rw [show (12400 : Int) + m = ((12400 + m : Nat) : Int) by omega, (homed_put once (12400 + m) v0 base).1]
          by_cases e : j = m
          · subst e; rw [upd_same, upd_same]
          · rw [upd_other _ _ (by omega), upd_other _ _ e]; exact S.hv j hj
        have ob3x := fr3.obj ob2 (by omega)
        obtain ⟨P3, hP3⟩ : ∃ P3 : List (Int × Int), put P (12400 + (m : Int)) v0 = P3 := ⟨_, rfl⟩
        obtain ⟨N3, hN3⟩ : ∃ N3, N = N3 := ⟨_, rfl⟩
        obtain ⟨A3, hA3⟩ : ∃ A3, A = A3 := ⟨_, rfl⟩
        obtain ⟨f3, hf3⟩ : ∃ f3, f = f3 := ⟨_, rfl⟩
        obtain ⟨base3, hb3⟩ : ∃ base3, base = base3 := ⟨_, rfl⟩
        obtain ⟨u3, hu3⟩ : ∃ u3, u = u3 := ⟨_, rfl⟩
        obtain ⟨v3, hv3⟩ : ∃ v3, upd v m v0 = v3 := ⟨_, rfl⟩
        have S3 : AbS w g5 (g5 + 1) sb b (k + 1) w3 T3 A3 P3 N3 f3 base3 u3 v3 := by rw [← hP3, ← hN3, ← hA3, ← hf3, ← hb3, ← hu3, ← hv3]; exact S3x
        have ob3 := ob3x
        clear S S3x ob3x hd2 a5 a6 o2 n5 n6 HS HF1 HOB HNO hW1 d0 d1 d2 hP3 hN3 hA3 hf3 hb3 hu3 hv3 fr3 c0 c1 c2 ob2 once
        have TL := tells_ok v3 S3.hd.st S3.c.dead (by omega)
        rw [S3.agrees] at TL
        have e0 := cell_of_obj ob3 0
        have r63 : w3.heap[g5 + 1]? = some (.cells (arr 16 v3) 29 (0, 0)) := S3.a6
        have HTL := hide TL; have HS3 := hide S3
        clear TL S3 ob3
        go_wp2_with (first | (refine wpList_load_row rfl 29 _ rfl (g5 + 1) rfl 29 (arr 16 v3) (0, 0) _ r63 Try.underlying29 rfl (info_arr _) ?_) | fail)
        refine (unhide HTL).mono ?_
        clear HTL r63
        rintro e w4 ⟨rfl, f4⟩
        have e4 := f4.cell' e0 (fun x => x)
        have hd4 := (unhide HS3).hd.still f4
        have PD4 := t_pending hd4.st
        have S4 : AbS w g5 (g5 + 1) sb b (k + 1) w4 T3 A3 P3 N3 f3 base3 u3 v3 := { unhide HS3 with hd := hd4, a5 := (unhide HS3).a5.kept f4 (fun x => x), a6 := (unhide HS3).a6.kept f4 (fun x => x) }
        have HS4 := hide S4
        clear hd4 f4 HS3 e0 S4
        clear PD4
        go_wp2
        exact ⟨⟨k + 1, by omega, by omega, by go_num, T3, A3, P3, N3, f3, base3, u3, v3, unhide HS4⟩, by simp [intOf]; omega⟩
    · have PW := p_power_nil S.hd.st.dev S.c.n S.c.st (by omega) false
      have HPW := hide PW; have HS := hide S
      have NN := ne_nil_stor
      clear PW S
      rcases (show len ≤ k ∨ (k < len ∧ 60 ≤ k) by omega) with hx1 | ⟨hx1, hx2⟩
      all_goals
        clear hlt
        go_wp2_with fail
        refine (unhide HPW).mono ?_
        clear HPW
        rintro e w2 ⟨rfl, D⟩
        obtain ⟨L2, A2, o2, h2, hp, c2⟩ := D.on
        have S := unhide HS
        have e2 : h2 = f := calm_poss S.c hp
        subst e2
        have OP := tx_open (xs := []) (n := 608) o2.d (c2 True) (.inl S.cl) (by simp) S.hN (by omega) (by omega)
        have HOP := hide OP; have HO2 := hide o2
        clear OP o2 c2 hp D S
        go_wp2_with fail
        refine (unhide HOP).mono ?_
        clear HOP
        rintro e w3 (⟨sb2, rfl, hsb, op⟩ | ⟨_, D⟩)
        rotate_left
        · obtain ⟨_, _, _, hh, _⟩ := D
          exact absurd trivial hh.1
        obtain ⟨T3, A3, h3, st3, sub3, c3, ei⟩ := op.ex
        have S := unhide HS
        have o2 := unhide HO2
        have cl3 : Clean 0 12304 base h3 := by
          rcases ei with e | e
          · exact e
          · rw [List.reverse_nil, homed_nil] at e; exact e
        have n5 : ¬ foot b T.L g5 := fun x => S.hd.ap _ (.inl rfl) (.inl x)
        have a5 := (S.a5.kept o2.fr n5).kept op.fr (o2.other (S.hd.xl _ (.inl rfl)).2 n5)
        have TL := tells_ok u st3 c3.dead (by omega)
        rw [show agree (says [] A3) u 16 = true from by
          unfold agree says
          simp only [decide_eq_true_eq]
          intro j hj
          rw [homed_nil, c3.now, cl3.out _ (by omega), S.hu j hj]] at TL
        have fin : Still w w3 := (S.hd.fr.trans' o2.fr (fun k hk => .inr (S.hd.new k (.inl hk)))).trans' op.fr (fun k hk => .inr ((o2.sub k hk).elim (fun x => S.hd.new k (.inl x)) (fun x => Nat.le_trans S.hd.fr.size x)))
        have r5 : w3.heap[g5]? = some (.cells (arr 16 u) 29 (0, 0)) := a5
        have HTL := hide TL; have HFIN := hide fin
        clear TL fin a5 n5 S o2 cl3 c3 st3 sub3 ei op HS HO2
        go_wp2_with (first | (refine wpList_load_rowG (by rfl) 29 _ rfl g5 rfl 29 (arr 16 u) (0, 0) _ r5 Try.underlying29 rfl (info_arr _) ?_) | (go_at_call 13; refine (unhide HTL).mono ?_; rintro e w4 ⟨rfl, f4⟩; have HF4 := hide f4; clear f4) | (go_at_call 17; refine (AW _).mono ?_; rintro e w5 ⟨rfl, f5⟩; have HF5 := hide f5; clear f5))
        go_ret
        exact ⟨rfl, (((unhide HFIN).trans (unhide HF4)).trans (unhide HF5)).below (Nat.le_refl _) (fun _ x => x.elim)⟩
end Go.Proofs.Ytamghkabclbkgaa
