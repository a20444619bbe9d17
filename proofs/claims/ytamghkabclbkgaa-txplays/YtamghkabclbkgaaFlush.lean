/- send and Flush of a device. -/
import Derived.Test.YtamghkabclbkgaaRoom
namespace Go.Proofs.Ytamghkabclbkgaa
open Go.RowKit

theorem sentCells_app (s t : List (Nat × (Nat → Int))) : sentCells (s ++ t) = sentCells s ++ sentCells t := by simp [sentCells]

theorem sentCells_set (a : Nat) (l : Nat → Int) : ∀ (s : List (Nat × (Nat → Int))) (p : Nat), p < s.length → atOf s p = a →
    sentCells (s.set p (a, l)) = (((((((((sentCells s).set (p * 9 + 1) (u64 (l 0))).set (p * 9 + 1 + 1) (u64 (l 1))).set (p * 9 + 1 + 2) (u64 (l 2))).set (p * 9 + 1 + 3) (u64 (l 3))).set (p * 9 + 1 + 4) (u64 (l 4))).set (p * 9 + 1 + 5) (u64 (l 5))).set (p * 9 + 1 + 6) (u64 (l 6))).set (p * 9 + 1 + 7) (u64 (l 7)))
  | [], p, h, _ => by simp at h
  | x :: s, 0, _, ha => by
    have : x.1 = a := by simpa [atOf] using ha
    simp [sentCells, lineCells, this]
  | x :: s, p + 1, h, ha => by
    have ih := sentCells_set a l s p (by simpa using h) (by simpa [atOf] using ha)
    rw [List.set_cons_succ, sentCells_cons, ih, sentCells_cons]
    have hl : ((.int .i64 x.1 :: lineCells x.2 : List Value)).length = 9 := by simp [lineCells]
    have st : ∀ (r : List Value) (k : Nat) (v : Value), ((.int .i64 x.1 :: lineCells x.2) ++ r).set ((p + 1) * 9 + 1 + k) v = (.int .i64 x.1 :: lineCells x.2) ++ r.set (p * 9 + 1 + k) v := fun r k v => by
      rw [List.set_append_right _ _ (by rw [hl]; omega), hl, show (p + 1) * 9 + 1 + k - 9 = p * 9 + 1 + k from by omega]
    have s0 := fun r v => st r 0 v
    simp only [Nat.add_zero] at s0
    rw [s0, st, st, st, st, st, st, st]

theorem set8_owns {w : World} {g m cap : Nat} {s : List (Nat × (Nat → Int))} (h : w.ownsRow 0 91 9 (.slice (some ⟨g, 0, none⟩) m cap) m (sentCells s)) (p a : Nat) (l : Nat → Int) (hp : p < s.length) (ha : atOf s p = a) :
    (set8 w g (p * 9 + 1) l).ownsRow 0 91 9 (.slice (some ⟨g, 0, none⟩) m cap) m (sentCells (s.set p (a, l))) := by
  rw [sentCells_set a l s p hp ha]
  exact ((((((((h.stored _ _).1.stored _ _).1.stored _ _).1.stored _ _).1.stored _ _).1.stored _ _).1.stored _ _).1.stored _ _).1

theorem owns_base {w : World} {base size n : Nat} {e : TypeId} {v : Value} {xs : List Value} (h : w.ownsRow base e size v n xs) : w.ownsRow 0 e size v n xs := by
  refine ⟨h.1, ?_⟩
  rcases h.2 with h0 | ⟨g, cap, cur, hv, _, hr⟩
  · exact .inl h0
  · exact .inr ⟨g, cap, cur, hv, Nat.zero_le _, hr⟩

/-- A line is on its way as it stands. -/
def Ab.sendLine (A : Ab) (a : Nat) : Ab := { A with way := upd A.way a (some fun k => A.now (a * 8 + k)) }

/-- One more line on its way. -/
theorem DevL.push {w w1 : World} {b : Nat} {L : Lay} {A : Ab} (h : DevL w b L A) (a : Nat) (ha : a < A.n) (hp0 : L.place a = 0) {F : Nat → Prop} (f1 : Fr F w w1) (hF : ∀ k, F k → L.sv.ownBlock = some k) (g cap : Nat)
    (hg : L.sv.ownBlock = some g ∨ w.heap.size ≤ g) (own1 : w1.ownsRow 0 91 9 (.slice (some ⟨g, 0, none⟩) (L.sent.length + 1) cap) (L.sent.length + 1) (sentCells L.sent ++ (.int .i64 a :: lineCells fun k => A.now (a * 8 + k))))
    (hfew : (L.sent.length : Int) + 1 ≤ A.steps) :
    DevL (((w1.setCell ⟨b, 2, none⟩ (.slice (some ⟨g, 0, none⟩) (L.sent.length + 1) cap)).setCell ⟨L.bp, a, none⟩ (.int .i64 ((L.sent.length : Int) + 1))).drew) b
      { L with sv := .slice (some ⟨g, 0, none⟩) (L.sent.length + 1) cap, place := upd L.place a (L.sent.length + 1), sent := L.sent ++ [(a, fun k => A.now (a * 8 + k))] } (A.sendLine a) := by
  have nF : ∀ k, L.sv.ownBlock ≠ some k → ¬ F k := fun k hk hf => hk (hF k hf)
  have gb : g ≠ b := by rcases hg with e | e; exact fun x => h.sb (by rw [e, x]); have := h.ltb; omega
  have gn : g ≠ L.bn := by rcases hg with e | e; exact fun x => h.sn (by rw [e, x]); have := h.ltn; omega
  have gl : g ≠ L.bl := by rcases hg with e | e; exact fun x => h.sl (by rw [e, x]); have := h.ltl; omega
  have gp : g ≠ L.bp := by rcases hg with e | e; exact fun x => h.sp (by rw [e, x]); have := h.ltp; omega
  have c2 : w1.cell? ⟨b, 2, none⟩ = some L.sv := f1.cell' h.c2 (nF _ h.sb)
  have bbp := h.bbp
  have hno : ∀ p l, L.sent[p]? ≠ some (a, l) := fun p l e => by have := (h.sentOk p _ _ e).2.1; omega
  have d := h.resend (w' := (((w1.setCell ⟨b, 2, none⟩ (.slice (some ⟨g, 0, none⟩) (L.sent.length + 1) cap)).setCell ⟨L.bp, a, none⟩ (.int .i64 ((L.sent.length : Int) + 1))).drew)) (.slice (some ⟨g, 0, none⟩) (L.sent.length + 1) cap) (upd L.place a (L.sent.length + 1)) (L.sent ++ [(a, fun k => A.now (a * 8 + k))]) (upd A.way a (some fun k => A.now (a * 8 + k)))
    (by simpa using f1.size) (fun o ho => ?_) ?_ (fun o => ?_) ?_ ?_ (fun q hq => ?_) (fun o => ?_) ?_ (fun k hk => ?_) (fun p q l hp => ?_) (fun q hq => ?_) (by simpa using hfew)
  · exact d
  · rw [World.cell?_drew, World.cell?_setCell_other _ _ _ _ (by simp <;> omega), World.cell?_setCell_other _ _ _ _ (by simp <;> omega)]
    exact f1.cell (p := ⟨b, o, none⟩) h.ltb (nF _ h.sb)
  · rw [World.cell?_drew, World.cell?_setCell_other _ _ _ _ (by simp <;> omega)]
    exact World.cell?_setCell_same _ _ _ c2
  · rw [World.frozen?_drew, World.frozen?_setCell, World.frozen?_setCell]
    exact (f1.frozen (p := ⟨b, o, none⟩) h.ltb (nF _ h.sb)).trans (h.zb o)
  · show ((w1.setCell ⟨b, 2, none⟩ _).setCell ⟨L.bp, a, none⟩ _).heap[L.bn]? = _
    rw [Below.heap_setCell _ _ _ _ (h.bnp), Below.heap_setCell _ _ _ _ (Ne.symm h.bbn)]
    exact f1.block _ h.ltn (nF _ h.sn)
  · show ((w1.setCell ⟨b, 2, none⟩ _).setCell ⟨L.bp, a, none⟩ _).heap[L.bl]? = _
    rw [Below.heap_setCell _ _ _ _ (h.blp), Below.heap_setCell _ _ _ _ (Ne.symm h.bbl)]
    exact f1.block _ h.ltl (nF _ h.sl)
  · have hq1 : (w1.setCell ⟨b, 2, none⟩ (.slice (some ⟨g, 0, none⟩) (L.sent.length + 1) cap)).cell? ⟨L.bp, q, none⟩ = some (.int .i64 (L.place q)) := by
      rw [World.cell?_setCell_other _ _ _ _ (by simp <;> omega)]
      exact f1.cell' (h.plc q hq) (nF _ h.sp)
    rw [World.cell?_drew]
    by_cases e : q = a
    · subst e; rw [World.cell?_setCell_same _ _ _ hq1, upd_same]; simp
    · rw [World.cell?_setCell_other _ _ _ _ (by simp <;> omega), hq1, upd_other _ _ e]
  · rw [World.frozen?_drew, World.frozen?_setCell, World.frozen?_setCell]
    exact (f1.frozen (p := ⟨L.bp, o, none⟩) h.ltp (nF _ h.sp)).trans (h.zp o)
  · rw [sentCells_app, List.length_append]
    refine owns_same own1 fun k hk => ?_
    simp [Value.ownBlock] at hk; subst hk
    show ((w1.setCell ⟨b, 2, none⟩ _).setCell ⟨L.bp, a, none⟩ _).heap[g]? = _
    rw [Below.heap_setCell _ _ _ _ gp, Below.heap_setCell _ _ _ _ gb]
  · simp [Value.ownBlock] at hk; subst hk; exact ⟨gb, gn, gl, gp⟩
  · by_cases hpl : p < L.sent.length
    · rw [List.getElem?_append_left hpl] at hp
      have := h.sentOk p q l hp
      have hqa : q ≠ a := fun e => hno p l (by rw [← e]; exact hp)
      rw [upd_other _ _ hqa, upd_other _ _ hqa]; exact this
    · rw [List.getElem?_append_right (by omega)] at hp
      have hpz : p - L.sent.length = 0 := by
        have := (List.getElem?_eq_some_iff.1 hp).1; simp at this; omega
      rw [hpz] at hp
      simp at hp
      obtain ⟨rfl, rfl⟩ := hp
      exact ⟨ha, by rw [upd_same]; omega, by rw [upd_same]⟩
  · by_cases e : q = a
    · subst e
      exact .inr ⟨L.sent.length, fun k => A.now (q * 8 + k), by rw [upd_same], by simp⟩
    · rcases h.wayOk q hq with ⟨e1, e2⟩ | ⟨p, l, e1, e2⟩
      · exact .inl ⟨by rw [upd_other _ _ e]; exact e1, by rw [upd_other _ _ e]; exact e2⟩
      · exact .inr ⟨p, l, by rw [upd_other _ _ e]; exact e1, by rw [List.getElem?_append_left (List.getElem?_eq_some_iff.1 e2).1]; exact e2⟩

theorem send_ok {w : World} {b : Nat} {L : Lay} {A : Ab} (h : DevL w b L A) (a : Nat) (ha : a < A.n) (hs : A.steps < 4294967296) (hfew : L.place a = 0 → (L.sent.length : Int) + 1 ≤ A.steps) :
    Calls Try.prog 78 #[ptr b, .int .i64 a] w fun e w' => e = .returned (.tuple #[]) ∧ ∃ L', DevL w' b L' (A.sendLine a) ∧ Fr (foot b L) w w' ∧ ∀ k, foot b L' k → foot b L k ∨ w.heap.size ≤ k := by
  have hlen : L.sent.length ≤ 4294967296 := by have := h.few; omega
  have hl : ∀ k, k < 8 → w.cell? ⟨L.bn, a * 8 + k, none⟩ = some (u64 (A.now (a * 8 + k))) := fun k hk => h.now _ (by omega)
  have hpl := h.plc a ha
  rcases h.wayOk a ha with ⟨e0, hw⟩ | ⟨p, l, e1, e2⟩
  · rw [e0] at hpl
    have hfew := hfew e0
    have hpl' : w.cell? ⟨L.bp, a, none⟩ = some (.int .i64 0) := hpl
    have grow : ∀ (ao : Option Addr), L.sv = .slice ao L.sent.length L.sent.length → (ao = none → L.sent.length = 0) → (∀ x, ao = some x → ∃ g, x = ⟨g, 0, none⟩) →
        Calls Try.prog 78 #[ptr b, .int .i64 a] w fun e w' => e = .returned (.tuple #[]) ∧ ∃ L', DevL w' b L' (A.sendLine a) ∧ Fr (foot b L) w w' ∧ ∀ k, foot b L' k → foot b L k ∨ w.heap.size ≤ k := by
      intro ao hv hnone hsome
      have h2 := h.c2; rw [hv] at h2
      refine (send_grow b L.bn L.bp A.n L.sent.length L.sent.length a ao (fun k => A.now (a * 8 + k)) (sentCells L.sent) w h.n8 hlen ha h.c0 h2 h.c3 (h.zb 2) h.bbp (h.zp a) hpl' hl rfl (fun e => ⟨hnone e, hnone e⟩) (sentCells_len _) ?_).mono ?_
      · intro x hx j u hu
        obtain ⟨g, rfl⟩ := hsome x hx
        have ho := h.own; rw [hv, hx] at ho
        exact ho.cells rfl j u hu
      · rintro e w' ⟨rfl, w1, g, cap', own1, f1, rfl⟩
        have hgb : w.heap.size + 1 ≤ g := (own1.lt g rfl).1
        have d := h.push a ha e0 f1 (fun k hk => hk.elim) g cap' (.inr (by omega)) (owns_base own1) hfew
        refine ⟨rfl, _, d, ?_, ?_⟩
        · exact (((f1.mono (fun k hk => hk.elim)).setCell (.inl (.inl rfl)) _).setCell (.inl (.inr (.inr (.inr (.inl rfl))))) _).drew
        · rintro k (hk | hk | hk | hk | hk)
          · exact .inl (.inl hk)
          · exact .inl (.inr (.inl hk))
          · exact .inl (.inr (.inr (.inl hk)))
          · exact .inl (.inr (.inr (.inr (.inl hk))))
          · simp [Value.ownBlock] at hk; exact .inr (by omega)
    rcases h.own.2 with ⟨hv, hn⟩ | ⟨g, cap, cur, hv, hg0, hgg, hcap, hmax, hcur, htake⟩
    · exact grow none (by rw [hv, hn]) (fun _ => hn) (fun x hx => by cases hx)
    · by_cases hfull : cap = L.sent.length
      · exact grow (some ⟨g, 0, none⟩) (by rw [hv, hfull]) (fun e => by cases e) (fun x hx => ⟨g, by cases hx; rfl⟩)
      · have h2 := h.c2; rw [hv] at h2
        have gb : b ≠ g := fun e => h.sb (by rw [hv, e]; rfl)
        have gp : L.bp ≠ g := fun e => h.sp (by rw [hv, e]; rfl)
        refine (send_room b L.bn L.bp g A.n L.sent.length cap a (fun k => A.now (a * 8 + k)) (sentCells L.sent) cur w h.n8 hlen ha h.c0 h2 h.c3 (h.zb 2) h.bbp (h.zp a) hpl' hl hgg (by omega) hmax hcur htake gb gp).mono ?_
        rintro e w' ⟨rfl, w1, own1, f1, rfl⟩
        have d := h.push a ha e0 f1 (fun k hk => by rw [hv, hk]; rfl) g cap (.inl (by rw [hv]; rfl)) own1 hfew
        refine ⟨rfl, _, d, ?_, ?_⟩
        · exact (((f1.mono (fun k hk => .inl (.inr (.inr (.inr (.inr (by rw [hv, hk]; rfl))))))).setCell (.inl (.inl rfl)) _).setCell (.inl (.inr (.inr (.inr (.inl rfl))))) _).drew
        · rintro k (hk | hk | hk | hk | hk)
          · exact .inl (.inl hk)
          · exact .inl (.inr (.inl hk))
          · exact .inl (.inr (.inr (.inl hk)))
          · exact .inl (.inr (.inr (.inr (.inl hk))))
          · exact .inl (.inr (.inr (.inr (.inr (by rw [hv]; exact hk)))))
  · have hp : p < L.sent.length := (List.getElem?_eq_some_iff.1 e2).1
    rw [e1] at hpl
    have hpl' : w.cell? ⟨L.bp, a, none⟩ = some (.int .i64 (p + 1)) := hpl
    have hap : atOf L.sent p = a := by simp [atOf, e2]
    rcases h.own.2 with ⟨hv, hn⟩ | ⟨g, cap, cur, hv, hg0, hgg, hcap, hmax, hcur, htake⟩
    · omega
    · have h2 := h.c2; rw [hv] at h2
      obtain ⟨_, hat, hln⟩ := h.sentAt hv
      have gb : g ≠ b := fun e => h.sb (by rw [hv, e]; rfl)
      have gn : g ≠ L.bn := fun e => h.sn (by rw [hv, e]; rfl)
      have gl : g ≠ L.bl := fun e => h.sl (by rw [hv, e]; rfl)
      have gp : g ≠ L.bp := fun e => h.sp (by rw [hv, e]; rfl)
      have ho := h.own; rw [hv] at ho
      refine (send_again b L.bn L.bp g A.n L.sent.length cap a p (fun k => A.now (a * 8 + k)) (lnOf L.sent p) w h.n8 hlen ha hp h.c0 h2 h.c3 hpl' hl (fun k hk => hln p k hp hk) (fun q => ho.frozenAt q)).mono ?_
      rintro e w' ⟨rfl, rfl⟩
      have d := h.resend (w' := set8 w g (p * 9 + 1) (fun k => A.now (a * 8 + k))) L.sv L.place (L.sent.set p (a, fun k => A.now (a * 8 + k))) (upd A.way a (some fun k => A.now (a * 8 + k)))
        (by rw [set8_size]; exact Nat.le_refl _) (fun o ho => set8_other _ _ _ _ _ (.inl (Ne.symm gb))) ?_ (fun o => by rw [set8_frozen]; exact h.zb o) (set8_heap _ _ _ _ _ (Ne.symm gn)) (set8_heap _ _ _ _ _ (Ne.symm gl))
        (fun q hq => by rw [set8_other _ _ _ _ _ (.inl (Ne.symm gp))]; exact h.plc q hq) (fun o => by rw [set8_frozen]; exact h.zp o) ?_ (fun k hk => ?_) (fun q x y hq => ?_) (fun q hq => ?_) (by simpa using h.few)
      · refine ⟨rfl, _, d.kept ((Fr.refl (fun _ => False) _).drew) (fun k _ hk => hk), ?_, ?_⟩
        · exact (set8_fr _ _ _ _ (Fr.refl _ w) (.inl (.inr (.inr (.inr (.inr (by rw [hv]; rfl))))))).drew
        · exact fun k hk => .inl hk
      · rw [set8_other _ _ _ _ _ (.inl (Ne.symm gb))]; exact h.c2
      · rw [hv, List.length_set]
        exact set8_owns ho p a _ hp hap
      · rw [hv] at hk; simp [Value.ownBlock] at hk; subst hk; exact ⟨gb, gn, gl, gp⟩
      · by_cases hqp : q = p
        · subst hqp
          rw [List.getElem?_set_self hp] at hq
          simp at hq
          obtain ⟨rfl, rfl⟩ := hq
          exact ⟨ha, e1, by rw [upd_same]⟩
        · rw [List.getElem?_set_ne (fun e => hqp e.symm)] at hq
          have hx := h.sentOk q x y hq
          have hxa : x ≠ a := fun e => by rw [e, e1] at hx; omega
          rw [upd_other _ _ hxa]; exact hx
      · by_cases e : q = a
        · subst e; exact .inr ⟨p, _, e1, List.getElem?_set_self hp⟩
        · rcases h.wayOk q hq with ⟨f1, f2⟩ | ⟨p', l', f1, f2⟩
          · exact .inl ⟨f1, by rw [upd_other _ _ e]; exact f2⟩
          · refine .inr ⟨p', l', f1, ?_⟩
            rw [List.getElem?_set_ne (fun x => e (by subst x; rw [e2] at f2; simp at f2; exact f2.1.symm))]; exact f2

set_option maxHeartbeats 400000 in
theorem flush_ok {w : World} {b : Nat} {L : Lay} {A : Ab} (h : DevL w b L A) (lv : Live A) (hs1 : A.steps + 1 < 4294967296) (j : Nat) (hj : j < A.n * 8) :
    Calls Try.prog 72 #[ptr b, .int .i64 j] w fun e w' => e = .returned (.tuple #[]) ∧ ∃ L', DevL w' b L' (A.tick.sendLine (j / 8)) ∧ Fr (foot b L) w w' ∧ ∀ k, foot b L' k → foot b L k ∨ w.heap.size ≤ k := by
  have H := mustHave_yes b L.bn A.n j w h.n8 h.c0 (by omega) (by omega)
  have K := step_ok h lv
  have hn := h.n8
  have hfw := h.few
  have HFW := hide hfw
  clear hfw h
  go_enter Try.func72, Try.ntmps72
  go_wp2_with (go_at_call 66; refine H.mono ?_; rintro e w' ⟨rfl, rfl⟩)
  refine K.mono ?_
  rintro e w1 ⟨rfl, h1, f1⟩
  have S := send_ok h1 (j / 8) (by show j / 8 < A.n; omega) hs1 (fun _ => by have := unhide HFW; show _ ≤ A.steps + 1; omega)
  have FF := hide f1
  have SS := hide S
  clear h1 f1 H K S
  go_wp2_with fail
  refine (unhide SS).mono ?_
  rintro e w2 ⟨rfl, L', d, f2, s2⟩
  have DD := hide d; have F2 := hide f2; have S2 := hide s2
  clear d f2 s2 SS
  go_wp2
  go_end0
  refine ⟨rfl, L', unhide DD, (unhide FF).trans (unhide F2), fun k hk => ?_⟩
  rcases unhide S2 k hk with h | h
  · exact .inl h
  · exact .inr (Nat.le_trans (unhide FF).size h)

set_option maxHeartbeats 400000 in
theorem flush_wrong {w : World} {b : Nat} {L : Lay} {A : Ab} (h : DevL w b L A) (i : Int) (hi : i < 0 ∨ A.n * 8 ≤ i) :
    Calls Try.prog 72 #[ptr b, .int .i64 i] w fun e w' => e = .panicked (wrong i) ∧ w' = w := by
  have H := mustHave_no b L.bn A.n i w h.n8 h.c0 hi
  clear hi h
  go_enter Try.func72, Try.ntmps72
  go_wp2_with (go_at_call 66; refine H.mono ?_; rintro e w' ⟨rfl, rfl⟩)
  exact ⟨rfl, rfl, rfl⟩

set_option maxHeartbeats 400000 in
theorem flush_lost {w : World} {b : Nat} {L : Lay} {A : Ab} (h : DevL w b L A) (hd : A.dead = true ∨ A.fuse = 0) (i : Int) (hi0 : 0 ≤ i) (hi : i < A.n * 8) :
    Calls Try.prog 72 #[ptr b, .int .i64 i] w fun e w' => e = .panicked lost ∧ DevL w' b L { A with dead := true } ∧ Fr (foot b L) w w' := by
  have H := mustHave_yes b L.bn A.n i w h.n8 h.c0 hi0 hi
  have K := step_lost h hd
  clear hi hi0 h hd
  go_enter Try.func72, Try.ntmps72
  go_wp2_with (go_at_call 66; refine H.mono ?_; rintro e w' ⟨rfl, rfl⟩)
  refine K.mono ?_
  rintro e w1 ⟨rfl, h1, f1⟩
  exact ⟨rfl, rfl, h1, f1⟩
end Go.Proofs.Ytamghkabclbkgaa
