/- Fence: what is on its way lasts. -/
import Derived.Test.YtamghkabclbkgaaForget
import Derived.BigRegion
namespace Go.Proofs.Ytamghkabclbkgaa
open Go.RowKit

/-- The lasting words behind the first q of what is on its way. -/
def after (at_ : Nat → Nat) (ln : Nat → Nat → Int) (lasts : Nat → Int) : Nat → Nat → Int
  | 0, j => lasts j
  | q + 1, j => if j / 8 = at_ q then ln q (j % 8) else after at_ ln lasts q j

/-- What a fence finds behind its step. -/
structure FenceIn (w : World) (b bl kl bs n m cap : Nat) (at_ : Nat → Nat) (ln : Nat → Nat → Int) (lasts : Nat → Int) : Prop where
  h2 : w.cell? ⟨b, 2, none⟩ = some (.slice (some ⟨bs, 0, none⟩) m cap)
  h1 : w.cell? ⟨b, 1, none⟩ = some (rowc bl n kl)
  hat : ∀ p, p < m → at_ p < n
  hc : ∀ p, p < m → w.cell? ⟨bs, p * 9, none⟩ = some (.int .i64 (at_ p))
  hl : ∀ p k, p < m → k < 8 → w.cell? ⟨bs, p * 9 + 1 + k, none⟩ = some (u64 (ln p k))
  hp : ∀ j, j < n * 8 → w.cell? ⟨bl, j, none⟩ = some (u64 (lasts j))
  hz : ∀ o, w.frozen? ⟨bl, o, none⟩ = false
  hbp : b ≠ bl
  hsp : bs ≠ bl

set_option maxHeartbeats 1000000 in
theorem fence_row {kl : Nat} (b bl bs n m cap : Nat) (at_ : Nat → Nat) (ln : Nat → Nat → Int) (lasts : Nat → Int) (S R : World → Prop) (w0 : World) (_hn : n ≤ 8192) (hm : m ≤ 4294967296)
    (K32 : Calls Try.prog 77 #[ptr b] w0 fun e w' => e = .returned (.tuple #[]) ∧ S w') (hS : ∀ w, S w → FenceIn w b bl kl bs n m cap at_ ln lasts)
    (K34 : ∀ w w1, S w → Fr (fun k => k = bl) w w1 → (∀ j, j < n * 8 → w1.cell? ⟨bl, j, none⟩ = some (u64 (after at_ ln lasts m j))) → (∀ o, w1.frozen? ⟨bl, o, none⟩ = false) →
      Calls Try.prog 49 #[ptr b] w1 fun e w' => e = .returned (.tuple #[]) ∧ R w') :
    Calls Try.prog 73 #[ptr b] w0 fun e w' => e = .returned (.tuple #[]) ∧ R w' := by
  have HK := hide K32; have HJ := hide K34; have HX := hide hS
  clear K32 K34 hS
  go_enter Try.func73, Try.ntmps73
  go_wp2_with fail
  refine (unhide HK).mono ?_
  rintro e w1 ⟨rfl, hSw⟩
  have HJ := hide (fun w2 => unhide HJ w1 w2 hSw)
  have HS := hide hSw
  obtain ⟨h2, h1, hat, hc, hl, hp, hz, hbp, hsp⟩ := unhide HX w1 hSw
  clear hSw HX
  have HH : Hid ((∀ p, p < m → at_ p < n) ∧ (∀ p, p < m → w1.cell? ⟨bs, p * 9, none⟩ = some (.int .i64 (at_ p))) ∧ (∀ p k, p < m → k < 8 → w1.cell? ⟨bs, p * 9 + 1 + k, none⟩ = some (u64 (ln p k))) ∧ (∀ j, j < n * 8 → w1.cell? ⟨bl, j, none⟩ = some (u64 (lasts j))) ∧ (∀ o, w1.frozen? ⟨bl, o, none⟩ = false)) := ⟨hat, hc, hl, hp, hz⟩
  clear hat hc hl hp hz HK
  go_wp2
  go_loopw [11] (fun i wr => ∃ q : Nat, q ≤ m ∧ i = .int .i64 q ∧ Fr (fun k => k = bl) w1 wr ∧ (∀ j, j < n * 8 → wr.cell? ⟨bl, j, none⟩ = some (u64 (after at_ ln lasts q j))) ∧ (∀ o, wr.frozen? ⟨bl, o, none⟩ = false)) (fun i wr => m - (intOf i).toNat)
  case atStart => exact ⟨0, Nat.zero_le _, rfl, Fr.refl _ _, fun a ha => (unhide HH).2.2.2.1 a ha, (unhide HH).2.2.2.2⟩
  case round =>
    obtain ⟨q, hq, rfl, hfr, hpl, hzz⟩ := hrel
    by_cases hlt : q < m
    · obtain ⟨hat, hc, hl, hp, hz⟩ := unhide HH
      have hb := World.block_lt_of_cell? _ _ h2
      have hbs := World.block_lt_of_cell? _ _ (hc q hlt)
      have c0 : wr.cell? ⟨bs, q * 9, none⟩ = some (.int .i64 (at_ q)) := hfr.cell' (hc q hlt) hsp
      have cl : ∀ k, k < 8 → wr.cell? ⟨bs, q * 9 + 1 + k, none⟩ = some (u64 (ln q k)) := fun k hk => hfr.cell' (hl q k hlt hk) hsp
      have c1 := cl 0 (by omega); have c2 := cl 1 (by omega); have c3 := cl 2 (by omega); have c4 := cl 3 (by omega)
      have c5 := cl 4 (by omega); have c6 := cl 5 (by omega); have c7 := cl 6 (by omega); have c8 := cl 7 (by omega)
      simp only [Nat.add_assoc, Nat.reduceAdd] at c1 c2 c3 c4 c5 c6 c7 c8
      have d3 : wr.cell? ⟨b, 1, none⟩ = some (rowc bl n kl) := hfr.cell' h1 hbp
      have hatq := hat q hlt
      have hbl := World.block_lt_of_cell? _ _ (hp (at_ q * 8) (by omega))
      have hbr : b < wr.heap.size := Nat.lt_of_lt_of_le hb hfr.size
      have hpr : bl < wr.heap.size := Nat.lt_of_lt_of_le hbl hfr.size
      have e0 : wr.cell? ⟨bl, at_ q * 8, none⟩ = some (u64 _) := hpl (at_ q * 8) (by omega)
      have e1 : wr.cell? ⟨bl, at_ q * 8 + 1, none⟩ = some (u64 _) := hpl (at_ q * 8 + 1) (by omega)
      have e2 : wr.cell? ⟨bl, at_ q * 8 + 2, none⟩ = some (u64 _) := hpl (at_ q * 8 + 2) (by omega)
      have e3 : wr.cell? ⟨bl, at_ q * 8 + 3, none⟩ = some (u64 _) := hpl (at_ q * 8 + 3) (by omega)
      have e4 : wr.cell? ⟨bl, at_ q * 8 + 4, none⟩ = some (u64 _) := hpl (at_ q * 8 + 4) (by omega)
      have e5 : wr.cell? ⟨bl, at_ q * 8 + 5, none⟩ = some (u64 _) := hpl (at_ q * 8 + 5) (by omega)
      have e6 : wr.cell? ⟨bl, at_ q * 8 + 6, none⟩ = some (u64 _) := hpl (at_ q * 8 + 6) (by omega)
      have e7 : wr.cell? ⟨bl, at_ q * 8 + 7, none⟩ = some (u64 _) := hpl (at_ q * 8 + 7) (by omega)
      generalize after at_ ln lasts q (at_ q * 8) = o0 at e0
      generalize after at_ ln lasts q (at_ q * 8 + 1) = o1 at e1
      generalize after at_ ln lasts q (at_ q * 8 + 2) = o2 at e2
      generalize after at_ ln lasts q (at_ q * 8 + 3) = o3 at e3
      generalize after at_ ln lasts q (at_ q * 8 + 4) = o4 at e4
      generalize after at_ ln lasts q (at_ q * 8 + 5) = o5 at e5
      generalize after at_ ln lasts q (at_ q * 8 + 6) = o6 at e6
      generalize after at_ ln lasts q (at_ q * 8 + 7) = o7 at e7
      have z0 := hzz (at_ q * 8); have z1 := hzz (at_ q * 8 + 1); have z2 := hzz (at_ q * 8 + 2); have z3 := hzz (at_ q * 8 + 3)
      have z4 := hzz (at_ q * 8 + 4); have z5 := hzz (at_ q * 8 + 5); have z6 := hzz (at_ q * 8 + 6); have z7 := hzz (at_ q * 8 + 7)
      have HP := hide hpl; have HF := hide hfr; have HZ := hide hzz
      clear cl hat hc hl hp hz hpl hfr hzz
      go_wp2
      go_region
      go_wp2
      go_roundw
      case rel =>
        refine ⟨q + 1, by omega, by go_num, ((set8_fr wr bl (at_ q * 8) (ln q) (unhide HF) (.inl rfl)).alloc _).drew, ?_, ?_⟩
        · intro j hj
          rw [World.cell?_drew, World.cell?_alloc_lt _ _ _ (by simpa using hpr)]
          by_cases hj8 : j / 8 = at_ q
          · obtain ⟨k, hk, rfl⟩ : ∃ k, k < 8 ∧ j = at_ q * 8 + k := ⟨j % 8, by omega, by omega⟩
            have := set8_in wr bl (at_ q * 8) (ln q) k hk (by rw [unhide HP _ hj]; rfl)
            refine Eq.trans this ?_
            simp only [after, if_pos hj8]
            rw [show (at_ q * 8 + k) % 8 = k from by omega]
          · have := set8_other wr bl (at_ q * 8) (ln q) ⟨bl, j, none⟩ (.inr (by simp; omega))
            refine Eq.trans this ?_
            simp only [after, if_neg hj8]
            exact unhide HP j hj
        · intro o
          rw [World.frozen?_drew, World.frozen?_alloc_old _ _ _ (by simp <;> omega)]
          exact (set8_frozen wr bl (at_ q * 8) (ln q) _).trans (unhide HZ o)
      case measure => simp [intOf]; omega
    · have hqm : q = m := by omega
      subst hqm
      have HC := hide (unhide HJ wr hfr hpl hzz)
      clear hpl hfr hzz
      go_wp2_with fail
      refine (unhide HC).mono ?_
      rintro e w' ⟨rfl, hR⟩
      have HR := hide hR; clear hR
      go_wp2
      go_end0
      exact ⟨rfl, unhide HR⟩

set_option maxHeartbeats 400000 in
theorem fence_nil (b : Nat) (S R : World → Prop) (w0 : World)
    (K32 : Calls Try.prog 77 #[ptr b] w0 fun e w' => e = .returned (.tuple #[]) ∧ S w')
    (hS : ∀ w, S w → w.cell? ⟨b, 2, none⟩ = some (.slice none 0 0)) (K34 : ∀ w, S w → Calls Try.prog 49 #[ptr b] w fun e w' => e = .returned (.tuple #[]) ∧ R w') :
    Calls Try.prog 73 #[ptr b] w0 fun e w' => e = .returned (.tuple #[]) ∧ R w' := by
  have HK := hide K32; have HJ := hide K34; have HX := hide hS
  clear K32 K34 hS
  go_enter Try.func73, Try.ntmps73
  go_wp2_with fail
  refine (unhide HK).mono ?_
  rintro e w1 ⟨rfl, hSw⟩
  have h2 := unhide HX w1 hSw
  have HJ := hide (unhide HJ w1 hSw)
  clear hSw HX HK
  go_wp2
  refine wp_loop_rounds 1 ?_
  rw [rounds_succ]
  go_wp2_with fail
  refine (unhide HJ).mono ?_
  rintro e w' ⟨rfl, hR⟩
  have HR := hide hR; clear hR
  go_wp2
  go_end0
  exact ⟨rfl, unhide HR⟩

theorem after_none {at_ : Nat → Nat} {ln : Nat → Nat → Int} {lasts : Nat → Int} {j : Nat} : ∀ m, (∀ p, p < m → at_ p ≠ j / 8) → after at_ ln lasts m j = lasts j
  | 0, _ => rfl
  | m + 1, h => by
    have h1 := h m (by omega)
    simp only [after]
    rw [if_neg (fun e => h1 e.symm)]
    exact after_none m (fun p hp => h p (by omega))

theorem after_some {at_ : Nat → Nat} {ln : Nat → Nat → Int} {lasts : Nat → Int} {j : Nat} {v : Int} : ∀ m, (∀ p, p < m → at_ p = j / 8 → ln p (j % 8) = v) → (∃ p, p < m ∧ at_ p = j / 8) → after at_ ln lasts m j = v
  | 0, _, ⟨p, hp, _⟩ => by omega
  | m + 1, h, ⟨p, hp, hpj⟩ => by
    simp only [after]
    by_cases e : at_ m = j / 8
    · rw [if_pos e.symm]; exact h m (by omega) e
    · rw [if_neg (fun x => e x.symm)]
      refine after_some m (fun p hp => h p (by omega)) ⟨p, ?_, hpj⟩
      by_cases hpm : p = m
      · subst hpm; exact absurd hpj e
      · omega

/-- The lasting words behind a fence. -/
def Ab.fenced (A : Ab) : Ab := { A with lasts := fun j => match A.way (j / 8) with | some l => l (j % 8) | none => A.lasts j, way := fun _ => none }

theorem DevL.after_eq {w : World} {b : Nat} {L : Lay} {A : Ab} (h : DevL w b L A) (j : Nat) (hj : j < A.n * 8) :
    after (atOf L.sent) (lnOf L.sent) A.lasts L.sent.length j = A.fenced.lasts j := by
  simp only [Ab.fenced]
  rcases h.wayOk (j / 8) (by omega) with ⟨h0, hw⟩ | ⟨p, l, hp, hs⟩
  · rw [hw]
    refine after_none _ fun p hp e => ?_
    have := (h.sentOk p _ _ (atOf_get hp)).2.1
    rw [e, h0] at this; omega
  · have hpl := (List.getElem?_eq_some_iff.1 hs).1
    have hw := (h.sentOk p _ _ hs).2.2
    rw [hw]
    refine after_some _ (fun p' hp' e => ?_) ⟨p, hpl, by simp [atOf, hs]⟩
    have h1 := (h.sentOk p' _ _ (atOf_get hp')).2.1
    rw [e, hp] at h1
    have : p' = p := by omega
    subst this
    simp [lnOf, hs]

/-- The lasting words turned. -/
theorem DevL.relast {w w' : World} {b : Nat} {L : Lay} {A : Ab} (h : DevL w b L A) (lasts : Nat → Int) (hf : Fr (fun k => k = L.bl) w w')
    (hl : ∀ j, j < A.n * 8 → w'.cell? ⟨L.bl, j, none⟩ = some (u64 (lasts j))) (hz : ∀ o, w'.frozen? ⟨L.bl, o, none⟩ = false) : DevL w' b L { A with lasts := lasts } := by
  have eb : w'.heap[b]? = w.heap[b]? := hf.block _ h.ltb h.bbl
  have en : w'.heap[L.bn]? = w.heap[L.bn]? := hf.block _ h.ltn h.bnl
  have ep : w'.heap[L.bp]? = w.heap[L.bp]? := hf.block _ h.ltp (Ne.symm h.blp)
  have cb : ∀ o, w'.cell? ⟨b, o, none⟩ = w.cell? ⟨b, o, none⟩ := fun o => World.cell?_of_block eb
  have cn : ∀ o, w'.cell? ⟨L.bn, o, none⟩ = w.cell? ⟨L.bn, o, none⟩ := fun o => World.cell?_of_block en
  have cp : ∀ o, w'.cell? ⟨L.bp, o, none⟩ = w.cell? ⟨L.bp, o, none⟩ := fun o => World.cell?_of_block ep
  refine { h with c0 := ?_, c1 := ?_, c2 := ?_, c3 := ?_, c4 := ?_, c5 := ?_, c6 := ?_, zb := ?_, zn := ?_, zl := hz, zp := ?_, now := ?_, lasts := hl, plc := ?_, own := ?_, ltb := ?_, ltn := ?_, ltl := ?_, ltp := ?_ }
  · rw [cb]; exact h.c0
  · rw [cb]; exact h.c1
  · rw [cb]; exact h.c2
  · rw [cb]; exact h.c3
  · rw [cb]; exact h.c4
  · rw [cb]; exact h.c5
  · rw [cb]; exact h.c6
  · intro o; rw [World.frozen?_of_block (a := ⟨b, o, none⟩) eb]; exact h.zb o
  · intro o; rw [World.frozen?_of_block (a := ⟨L.bn, o, none⟩) en]; exact h.zn o
  · intro o; rw [World.frozen?_of_block (a := ⟨L.bp, o, none⟩) ep]; exact h.zp o
  · intro j hj; rw [cn]; exact h.now j hj
  · intro j hj; rw [cp]; exact h.plc j hj
  · exact owns_same h.own fun k hk => hf.block k (h.lts k hk) (fun e => h.sl (by rw [hk, e]))
  · exact Nat.lt_of_lt_of_le h.ltb hf.size
  · exact Nat.lt_of_lt_of_le h.ltn hf.size
  · exact Nat.lt_of_lt_of_le h.ltl hf.size
  · exact Nat.lt_of_lt_of_le h.ltp hf.size

theorem fence_ok {w : World} {b : Nat} {L : Lay} {A : Ab} (h : DevL w b L A) (lv : Live A) (hs1 : A.steps + 1 < 4294967296) :
    Calls Try.prog 73 #[ptr b] w fun e w' => e = .returned (.tuple #[]) ∧ ∃ L', DevL w' b L' A.tick.fenced ∧ Fr (foot b L) w w' ∧ ∀ k, foot b L' k → foot b L k := by
  have K := step_ok h lv
  rcases h.own.2 with ⟨hv, hn⟩ | ⟨g, cap, cur, hv, _⟩
  · refine fence_nil b (fun w' => DevL w' b L A.tick ∧ Fr (foot b L) w w') (fun w' => ∃ L', DevL w' b L' A.tick.fenced ∧ Fr (foot b L) w w' ∧ ∀ k, foot b L' k → foot b L k) w K (fun w1 d => by rw [← hv]; exact d.1.c2) ?_
    rintro w1 ⟨d, f⟩
    refine (forget_ok d hs1).mono ?_
    rintro e w2 ⟨rfl, L', d', f', s'⟩
    refine ⟨rfl, L', ?_, f.trans f', s'⟩
    have hs0 : L.sent = [] := List.eq_nil_of_length_eq_zero hn
    have d2 := d'.relast A.tick.fenced.lasts (Fr.refl _ w2) (fun j hj => ?_) d'.zl
    · exact d2
    · have e := d.after_eq j hj
      rw [hs0] at e
      rw [← e]; exact d'.lasts j hj
  · have hlen : L.sent.length ≤ 4294967296 := by have := h.few; have := lv.few; omega
    refine fence_row (kl := L.kl) b L.bl g A.n L.sent.length cap (atOf L.sent) (lnOf L.sent) A.lasts (fun w' => DevL w' b L A.tick ∧ Fr (foot b L) w w') (fun w' => ∃ L', DevL w' b L' A.tick.fenced ∧ Fr (foot b L) w w' ∧ ∀ k, foot b L' k → foot b L k) w h.n8 hlen K ?_ ?_
    · rintro w1 ⟨d, f⟩
      obtain ⟨_, hat, hln⟩ := d.sentAt hv
      exact ⟨by have := d.c2; rw [hv] at this; exact this, d.c1, fun p hp => (d.sentOk p _ _ (atOf_get hp)).1, hat, hln, d.lasts, d.zl, d.bbl, fun e => d.sl (by rw [hv, e]; rfl)⟩
    · rintro w1 w2 ⟨d, f⟩ f2 hl hz
      have d2 := d.relast A.tick.fenced.lasts f2 (fun j hj => by rw [hl j hj, ← d.after_eq j hj]; rfl) hz
      refine (forget_ok d2 hs1).mono ?_
      rintro e w3 ⟨rfl, L', d', f', s'⟩
      exact ⟨rfl, L', d', (f.trans (f2.mono fun k hk => .inl (.inr (.inr (.inl hk))))).trans f', s'⟩

set_option maxHeartbeats 400000 in
theorem fence_lost {w : World} {b : Nat} {L : Lay} {A : Ab} (h : DevL w b L A) (hd : A.dead = true ∨ A.fuse = 0) :
    Calls Try.prog 73 #[ptr b] w fun e w' => e = .panicked lost ∧ DevL w' b L { A with dead := true } ∧ Fr (foot b L) w w' := by
  have K := step_lost h hd
  clear h hd
  go_enter Try.func73, Try.ntmps73
  go_wp2_with fail
  refine K.mono ?_
  rintro e w1 ⟨rfl, h1, f1⟩
  exact ⟨rfl, rfl, h1, f1⟩
end Go.Proofs.Ytamghkabclbkgaa
