/- From's own closure: what was not found yet is kept. -/
import Derived.Test.YtkdehhmmcchgfaaBg
import Derived.Test.YtkdehhmmcchgfaaBd
import Derived.Maps.OwnSet
namespace Go.Proofs.Ytkdehhmmcchgfaa
open Go.RowKit

theorem ownsMap_block {w w' : World} {R : Value → Option (DataW Unit × List MemPlace)} {k : TypeId} {m c : Nat} {D : DataW Unit} (h : w.ownsMap Try.prog k R m c D) (hb : w'.heap[m]? = w.heap[m]?) : w'.ownsMap Try.prog k R m c D := by
  obtain ⟨es, cl, h1, rest⟩ := h
  exact ⟨es, cl, hb.trans h1, rest⟩
/-- The numbers that were found, as a set. -/
def setD (acc : List Int) : DataW Unit := Maps.setOf (.agg []) (acc.map (Lit.int .i64))
theorem setD_has (acc : List Int) (x : Int) : Maps.has (setD acc) (Lit.int .i64 x) = acc.contains x := by
  unfold setD
  rw [Maps.has_setOf _ _ _ (by intro y hy; obtain ⟨v, _, rfl⟩ := List.mem_map.1 hy; trivial)]
  rw [Bool.eq_iff_iff, List.any_eq_true, List.contains_iff_mem]
  constructor
  · rintro ⟨y, hy, e⟩
    obtain ⟨v, hv, rfl⟩ := List.mem_map.1 hy
    simp [Lit.sameKey] at e
    exact e ▸ hv
  · intro h
    exact ⟨_, List.mem_map.2 ⟨x, h, rfl⟩, by simp [Lit.sameKey]⟩
theorem setD_snoc (acc : List Int) (x : Int) : setD (acc ++ [x]) = DataW.put (setD acc) (Lit.int .i64 x) (DataW.agg []) := by
  unfold setD
  rw [List.map_append, List.map_singleton, Maps.setOf_snoc]

/-- What was found: the numbers, and those that wait. -/
structure St (W : World) (base bF mb bW : Nat) (acc : List Int) (v : Value) (q : List Int) : Prop where
  fbox : W.heap[bF]? = some (.cells #[.map (some mb)] 42 (0, 0))
  map : W.ownsMap Try.prog 3 (unitElem (H := Unit)) mb acc.length (setD acc)
  qu : Qu W bW base v q
  nd : acc.Nodup
  n0 : ∀ x ∈ acc, x ≠ 0
  d1 : bF ≠ mb
  d2 : bF ≠ bW
  d3 : mb ≠ bW
  nv : ∀ k, v.ownBlock = some k → k ≠ bF ∧ k ≠ mb
  lo : base ≤ bF ∧ base ≤ mb ∧ base ≤ bW
/-- Which blocks a change of it may turn. -/
def sf (mb bW : Nat) (v : Value) (k : Nat) : Prop := k = mb ∨ k = bW ∨ v.ownBlock = some k
/-- Which blocks it has. -/
def sb (bF mb bW : Nat) (v : Value) (k : Nat) : Prop := k = bF ∨ k = mb ∨ k = bW ∨ v.ownBlock = some k
theorem St.ltm {W : World} {base bF mb bW : Nat} {acc q : List Int} {v : Value} (s : St W base bF mb bW acc v q) : mb < W.heap.size := by
  obtain ⟨es, cl, h, _⟩ := s.map
  exact (Array.getElem?_eq_some_iff.1 h).1
theorem St.lt {W : World} {base bF mb bW : Nat} {acc q : List Int} {v : Value} (s : St W base bF mb bW acc v q) : ∀ k, sb bF mb bW v k → base ≤ k ∧ k < W.heap.size := by
  rintro k (rfl | rfl | rfl | h)
  · exact ⟨s.lo.1, (Array.getElem?_eq_some_iff.1 s.fbox).1⟩
  · exact ⟨s.lo.2.1, s.ltm⟩
  · exact ⟨s.lo.2.2, (Array.getElem?_eq_some_iff.1 s.qu.box).1⟩
  · exact s.qu.own.lt k h
theorem St.kept {W W' : World} {base bF mb bW : Nat} {acc q : List Int} {v : Value} (s : St W base bF mb bW acc v q) {F : Nat → Prop} (f : Fr F W W') (hF : ∀ k, sb bF mb bW v k → ¬ F k) : St W' base bF mb bW acc v q :=
  { s with
    fbox := f.obj s.fbox (hF _ (.inl rfl))
    map := ownsMap_block s.map (f.block _ s.ltm (hF _ (.inr (.inl rfl))))
    qu := ⟨f.obj s.qu.box (hF _ (.inr (.inr (.inl rfl)))), s.qu.own.still f (fun k hk => hF k (.inr (.inr (.inr hk)))), s.qu.heap, s.qu.ne⟩ }
theorem St.still {W W' : World} {base bF mb bW : Nat} {acc q : List Int} {v : Value} (s : St W base bF mb bW acc v q) (f : Still W W') : St W' base bF mb bW acc v q := s.kept f fun _ _ x => x

/-- One number more. -/
def fnd1 (acc : List Int) (x : Int) : List Int := if x = 0 ∨ x ∈ acc then acc else acc ++ [x]
/-- A list more. -/
def fnd (acc l : List Int) : List Int := l.foldl fnd1 acc
theorem fnd_step (acc l : List Int) {k : Nat} (hk : k < l.length) : fnd acc (l.take (k + 1)) = fnd1 (fnd acc (l.take k)) (l.getD k 0) := by
  unfold fnd
  rw [take_one l hk, List.foldl_append]; rfl
theorem fnd1_grow (acc : List Int) (x : Int) : ∃ n, fnd1 acc x = acc ++ n := by
  unfold fnd1; split
  · exact ⟨[], by simp⟩
  · exact ⟨[x], rfl⟩
theorem fnd_grow (acc l : List Int) : ∃ n, fnd acc l = acc ++ n := by
  induction l generalizing acc with
  | nil => exact ⟨[], by simp [fnd]⟩
  | cons x l ih =>
    obtain ⟨n1, h1⟩ := fnd1_grow acc x
    obtain ⟨n2, h2⟩ := ih (fnd1 acc x)
    exact ⟨n1 ++ n2, by show fnd (fnd1 acc x) l = _; rw [h2, h1, List.append_assoc]⟩
theorem fnd_len (acc l : List Int) : (fnd acc l).length ≤ acc.length + l.length := by
  induction l generalizing acc with
  | nil => simp [fnd]
  | cons x l ih =>
    have h := ih (fnd1 acc x)
    have h2 : (fnd1 acc x).length ≤ acc.length + 1 := by unfold fnd1; split <;> simp
    show (fnd (fnd1 acc x) l).length ≤ _
    simp only [List.length_cons]
    omega
theorem fnd_mem (acc l : List Int) (x : Int) : x ∈ fnd acc l ↔ x ∈ acc ∨ (x ∈ l ∧ x ≠ 0) := by
  induction l generalizing acc with
  | nil => simp [fnd]
  | cons y l ih =>
    show x ∈ fnd (fnd1 acc y) l ↔ _
    rw [ih]
    unfold fnd1
    by_cases h : y = 0 ∨ y ∈ acc
    · rw [if_pos h]
      simp only [List.mem_cons]
      constructor
      · rintro (h1 | h1)
        · exact .inl h1
        · exact .inr ⟨.inr h1.1, h1.2⟩
      · rintro (h1 | ⟨h1 | h1, h2⟩)
        · exact .inl h1
        · subst h1
          rcases h with h | h
          · exact absurd h h2
          · exact .inl h
        · exact .inr ⟨h1, h2⟩
    · rw [if_neg h]
      have hy0 : y ≠ 0 := fun e => h (.inl e)
      simp only [List.mem_append, List.mem_cons, List.mem_nil_iff, or_false]
      constructor
      · rintro ((h1 | h1) | h1)
        · exact .inl h1
        · subst h1; exact .inr ⟨.inl rfl, hy0⟩
        · exact .inr ⟨.inr h1.1, h1.2⟩
      · rintro (h1 | ⟨h1 | h1, h2⟩)
        · exact .inl (.inl h1)
        · exact .inl (.inr h1)
        · exact .inr ⟨h1, h2⟩

set_option maxRecDepth 100000 in
set_option maxHeartbeats 2000000 in
theorem find_ok (W : World) (base bF mb bW : Nat) (acc q : List Int) (v : Value) (a : Option Addr) (n c : Nat) (l : List Int) (s : St W base bF mb bW acc v q) (hr : Rd W a l) (ha : ∀ b o, a = some ⟨b, o, none⟩ → ¬ sf mb bW v b) (hn : n = l.length) (hwf : ∀ x ∈ l, (Lit.int .i64 x).wf = true)
    (hl : acc.length + n ≤ 900) (hq : q.length ≤ acc.length) (hb : base ≤ W.heap.size) :
    Calls Try.prog 21 #[.slice a n c, ptr bF, ptr bW] W fun e W' => e = .returned (.tuple #[]) ∧ ∃ v' q', St W' base bF mb bW (fnd acc l) v' q' ∧ q'.Perm (q ++ (fnd acc l).drop acc.length) ∧ Fr (sf mb bW v) W W' ∧ (v'.ownBlock = v.ownBlock ∨ ∃ g, v'.ownBlock = some g ∧ W.heap.size ≤ g) := by
  have zu : ∀ w, (zeroValue 44).run Try.prog w = .ok (.agg #[]) w := fun w => by kernel_rfl
  have HS := hide s; have HR := hide (And.intro hr (And.intro ha (And.intro hwf hq))); have HN := hide hn
  clear s hr ha hwf hn hq
  go_enter Try.func21, Try.ntmps21
  go_wp2
  go_loopw [10] (fun i wr => ∃ (k : Nat) (v' : Value) (q' : List Int), i = iv k ∧ Hid (k ≤ n ∧ St wr base bF mb bW (fnd acc (l.take k)) v' q' ∧ q'.Perm (q ++ (fnd acc (l.take k)).drop acc.length) ∧ Fr (sf mb bW v) W wr ∧ (v'.ownBlock = v.ownBlock ∨ ∃ g, v'.ownBlock = some g ∧ W.heap.size ≤ g))) (fun i wr => n - (RowKit.intOf i).toNat)
  case atStart => exact ⟨0, v, q, rfl, hide ⟨Nat.zero_le _, by simpa [fnd] using unhide HS, by simp [fnd], Fr.refl _ _, .inl rfl⟩⟩
  case round =>
    obtain ⟨k, v1, q1, rfl, HI⟩ := hrel
    have hk := (unhide HI).1
    by_cases hlt : k < n
    · have hlt' : (k : Int) < n := by omega
      have hkl : k < l.length := by have := unhide HN; omega
      obtain ⟨xb, xo, rfl, cx0⟩ := (unhide HR).1 k hkl
      have cx := (unhide HI).2.2.2.1.cell' cx0 ((unhide HR).2.1 xb xo rfl)
      have hwx := (unhide HR).2.2.1 _ (getD_mem hkl)
      have hst := fnd_step acc l hkl
      have s1 := (unhide HI).2.1
      have cF : wr.cell? ⟨bF, 0, none⟩ = some (.map (some mb)) := cell_of_obj s1.fbox 0
      have m1 := s1.map
      have hhas := setD_has (fnd acc (l.take k)) (l.getD k 0)
      have hlen1 : (fnd acc (l.take k)).length ≤ 900 := Nat.le_trans (fnd_len _ _) (by simp; have := unhide HN; omega)
      obtain ⟨W3, hW3⟩ : ∃ W3, wr.alloc (.cells #[] 44) = W3 := ⟨_, rfl⟩
      have f13 : Still wr W3 := hW3 ▸ (Fr.refl _ wr).alloc _
      have s3 := s1.still f13
      have cF3 : W3.cell? ⟨bF, 0, none⟩ = some (.map (some mb)) := cell_of_obj s3.fbox 0
      have m3 := s3.map
      have HW3 := hide hW3; have HST := hide hst; have HS3 := hide (And.intro s3 f13)
      generalize hA : fnd acc (l.take k) = A at *
      generalize hx : l.getD k 0 = x at *
      have HA := hide (And.intro hA hx)
      have hal : A.length < maxLen := by unfold maxLen; omega
      rw [← hW3] at cF3
      clear hA hx cx0 hst s1 s3 f13 hW3
      by_cases hin : x ∈ A
      · have hB : Maps.has (setD A) (Lit.int .i64 x) = true := by rw [hhas]; simpa using hin
        have HIN := hide hin
        clear hhas hin
        go_wp2_with (first | (at_lookup; refine wpList_lookup_own_unit _ rfl _ _ 42 rfl 3 44 (Maps.int_keyed Try.underlying3) Try.underlying42 (zu _) mb A.length (setD A) rfl m1 _ (Lit.int .i64 x) rfl (Maps.keyOf_int_mk Try.underlying3 hwx) ?_; rw [hB]) | fail)
        obtain ⟨hA, hx⟩ := unhide HA
        have hst := unhide HST
        rw [show fnd1 A x = A from if_pos (.inr (unhide HIN))] at hst
        obtain ⟨s3, f13⟩ := unhide HS3
        obtain ⟨i1, i2, i3, i4, i5⟩ := unhide HI
        rw [unhide HW3]
        exact ⟨⟨k + 1, v1, q1, by go_num, hide ⟨by omega, by rw [hst]; exact s3, by rw [hst]; exact i3, i4.trans' f13 (fun _ x => x.elim), i5⟩⟩, by simp [RowKit.intOf]; omega⟩
      · have hB : Maps.has (setD A) (Lit.int .i64 x) = false := by rw [hhas]; simpa using hin
        have HIN := hide hin
        clear hhas hin
        by_cases h0 : x = 0
        · have H0 := hide h0
          have h0' : (x == 0) = true := by simp [h0]
          clear h0
          go_wp2_with (first | (at_lookup; refine wpList_lookup_own_unit _ rfl _ _ 42 rfl 3 44 (Maps.int_keyed Try.underlying3) Try.underlying42 (zu _) mb A.length (setD A) rfl m1 _ (Lit.int .i64 x) rfl (Maps.keyOf_int_mk Try.underlying3 hwx) ?_; rw [hB]) | fail)
          obtain ⟨hA, hx⟩ := unhide HA
          have hst := unhide HST
          rw [show fnd1 A x = A from if_pos (.inl (unhide H0))] at hst
          obtain ⟨s3, f13⟩ := unhide HS3
          obtain ⟨i1, i2, i3, i4, i5⟩ := unhide HI
          rw [unhide HW3]
          exact ⟨⟨k + 1, v1, q1, by go_num, hide ⟨by omega, by rw [hst]; exact s3, by rw [hst]; exact i3, i4.trans' f13 (fun _ x => x.elim), i5⟩⟩, by simp [RowKit.intOf]; omega⟩
        · have H0 := hide h0
          have h0' : (x == 0) = false := by simp [h0]
          clear h0
          go_wp2_with (first | (at_lookup; refine wpList_lookup_own_unit _ rfl _ _ 42 rfl 3 44 (Maps.int_keyed Try.underlying3) Try.underlying42 (zu _) mb A.length (setD A) rfl m1 _ (Lit.int .i64 x) rfl (Maps.keyOf_int_mk Try.underlying3 hwx) ?_; rw [hB]) | (rw [unhide HW3]; at_mapUpdate; refine wpList_mapUpdate_own _ rfl _ _ _ 42 rfl 3 44 (Maps.int_keyed Try.underlying3) Try.underlying42 _ mb A.length _ rfl m3 hal _ _ (Lit.int .i64 x) rfl rfl (Maps.keyOf_int_mk Try.underlying3 hwx) (.agg []) [] unitElem_mk ?_; intro w4 hown4 hgrow4) | fail)
          obtain ⟨s3, f13⟩ := unhide HS3
          have fm4 : Fr (fun k => k = mb) W3 w4 := (Fr.refl _ W3).grown hgrow4 (fun j e => .inl (by cases e; rfl))
          have q4 : Qu w4 bW base v1 q1 := ⟨fm4.obj s3.qu.box (fun e => s3.d3 e.symm), s3.qu.own.still fm4 (fun k hk e => (s3.nv k hk).2 e), s3.qu.heap, s3.qu.ne⟩
          have f04 := (unhide HI).2.2.2.1.size
          have z1 := f13.size
          have z2 := fm4.size
          have hq1 : q1.length ≤ 900 := by
            have h1 := (unhide HI).2.2.1.length_eq
            have h2 := (unhide HR).2.2.2
            obtain ⟨nn, e⟩ := fnd_grow acc (l.take k)
            rw [(unhide HA).1] at e
            rw [e] at h1 hlen1
            simp at h1 hlen1
            omega
          have AD := add_ok w4 bW base v1 q1 x q4 hq1 (by omega)
          have H4 := hide (And.intro fm4 hown4)
          have HAD := hide AD
          clear s3 f13 fm4 q4 hq1 AD hown4 hgrow4 m1 m3 hB cF cF3 cx
          go_wp2_with fail
          refine (unhide HAD).mono ?_
          rintro e w5 ⟨rfl, v5, q5, q5u, p5, f5, l5⟩
          have H5 := hide (And.intro q5u (And.intro p5 (And.intro f5 l5)))
          clear q5u p5 f5 l5 HAD
          go_wp2
          obtain ⟨q5u, p5, f5, l5⟩ := unhide H5
          obtain ⟨fm4, hown4⟩ := unhide H4
          obtain ⟨s3, f13⟩ := unhide HS3
          obtain ⟨hA, hx⟩ := unhide HA
          obtain ⟨i1, i2, i3, i4, i5⟩ := unhide HI
          have hst := unhide HST
          rw [show fnd1 A x = A ++ [x] from if_neg (by rintro (e | e); exact unhide H0 e; exact unhide HIN e)] at hst
          have n5 : ∀ k, v5.ownBlock = some k → k ≠ bF ∧ k ≠ mb := fun k hk => by
            rcases l5 with e | ⟨g, e, hg⟩
            · exact s3.nv k (e ▸ hk)
            · rw [e] at hk
              cases hk
              have := s3.lt bF (.inl rfl)
              have := s3.lt mb (.inr (.inl rfl))
              omega
          have f35 : Fr (sf mb bW v1) W3 w5 := (fm4.mono (G := sf mb bW v1) (fun j hj => .inl (.inl hj))).trans' f5 (fun j hj => .inl (.inr hj))
          have s5 : St w5 base bF mb bW (A ++ [x]) v5 q5 := by
            refine ⟨f35.obj s3.fbox ?_, ?_, q5u, ?_, ?_, s3.d1, s3.d2, s3.d3, n5, s3.lo⟩
            · rintro (e | e | e)
              · exact s3.d1 e
              · exact s3.d2 e
              · exact (s3.nv _ e).1 rfl
            · rw [setD_snoc, List.length_append, List.length_singleton]
              refine ownsMap_block hown4 (f5.block _ (Nat.lt_of_lt_of_le s3.ltm fm4.size) ?_)
              rintro (e | e)
              · exact s3.d3 e
              · exact (s3.nv _ e).2 rfl
            · rw [List.nodup_append]
              exact ⟨s3.nd, by simp, fun y hy z hz e => by simp at hz; subst hz; subst e; exact unhide HIN hy⟩
            · intro y hy
              rcases List.mem_append.1 hy with h | h
              · exact s3.n0 y h
              · simp at h; rw [h]; exact unhide H0
          have hAd : acc.length ≤ A.length := by
            obtain ⟨nn, e⟩ := fnd_grow acc (l.take k)
            rw [hA] at e; rw [e]; simp
          refine ⟨⟨k + 1, v5, q5, by go_num, hide ⟨by omega, by rw [hst]; exact s5, ?_, ?_, ?_⟩⟩, by simp [RowKit.intOf]; omega⟩
          · rw [hst, List.drop_append_of_le_length hAd, ← List.append_assoc]
            exact p5.trans (i3.append_right [x])
          · refine (i4.trans' f13 (fun _ x => x.elim)).trans' f35 ?_
            rintro j (e | e | e)
            · exact .inl (.inl e)
            · exact .inl (.inr (.inl e))
            · rcases i5 with e2 | ⟨g, e2, hg⟩
              · exact .inl (.inr (.inr (e2 ▸ e)))
              · rw [e2] at e; cases e; exact .inr hg
          · rcases l5 with e | ⟨g, e, hg⟩
            · rw [e]; exact i5
            · exact .inr ⟨g, e, by omega⟩
    · have hlt' : ¬ (k : Int) < n := by omega
      go_wp2
      go_end0
      obtain ⟨i1, i2, i3, i4, i5⟩ := unhide HI
      rw [List.take_of_length_le (by have := unhide HN; omega)] at i2 i3
      exact ⟨rfl, v1, q1, i2, i3, i4, i5⟩
end Go.Proofs.Ytkdehhmmcchgfaa
