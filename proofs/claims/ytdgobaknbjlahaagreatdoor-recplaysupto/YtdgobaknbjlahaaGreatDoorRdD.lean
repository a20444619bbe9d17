/- A log's Open and Commit. -/
import Derived.Test.YtdgobaknbjlahaaGreatDoorRdC
namespace Go.Proofs.YtdgobaknbjlahaaGreatDoor
open Go.RowKit

section
variable {w : World} {b : Nat} {L : Lay} {N : Nat} {free : Prop} {A : Ab} {s : Int} {f : Nat → Int}

set_option maxHeartbeats 400000 in
theorem open_nil (at_ ws : Int) (w : World) : Calls Tryz.prog 82 #[.pointer none, .int .i64 at_, .int .i64 ws] w fun e w' => e = .returned (.tuple #[.pointer none, .int .i64 1]) ∧ w' = w := by
  go_enter Tryz.func82, Tryz.ntmps82
  go_wp2
  go_ret2
  exact ⟨rfl, rfl⟩

set_option maxHeartbeats 400000 in
theorem open_arg (d : DevL w b L A) (at_ ws : Int) (h64 : at_ < 9223372036854775808) (hb : ¬ (0 ≤ at_ ∧ at_ % 8 = 0 ∧ 16 ≤ ws ∧ ws ≤ A.n * 8 - at_)) :
    Calls Tryz.prog 82 #[ptr b, .int .i64 at_, .int .i64 ws] w fun e w' => e = .returned (.tuple #[.pointer none, .int .i64 1]) ∧ w' = w := by
  have H := words_any b L.bn A.n w d.n8 d.c0
  have n8 := d.n8
  clear d
  by_cases h1 : at_ < 0
  · clear hb
    go_enter Tryz.func82, Tryz.ntmps82
    go_wp2
    go_ret2
    exact ⟨rfl, rfl⟩
  have h1' : 0 ≤ at_ := by omega
  clear h1
  by_cases h2 : at_ % 8 = 0
  · by_cases h3 : ws < 16
    · have e8 : (at_ % 8 != 0) = false := by simp [h2]
      clear hb h2
      go_enter Tryz.func82, Tryz.ntmps82
      go_wp2
      go_ret2
      exact ⟨rfl, rfl⟩
    · have h4 : (A.n : Int) * 8 - at_ < ws := Classical.byContradiction fun hn => hb ⟨h1', h2, by omega, by omega⟩
      have e8 : (at_ % 8 != 0) = false := by simp [h2]
      have h3' : 16 ≤ ws := by omega
      clear hb h2 h3
      go_enter Tryz.func82, Tryz.ntmps82
      go_wp2_with (go_at_call 80; refine H.mono ?_; rintro e w' ⟨rfl, rfl⟩)
      go_ret2
      exact ⟨rfl, rfl⟩
  · have e8 : (at_ % 8 != 0) = true := by simp [h2]
    clear hb h2
    go_enter Tryz.func82, Tryz.ntmps82
    go_wp2
    go_ret2
    exact ⟨rfl, rfl⟩

/-- The block of a log. -/
abbrev logObj (b at_ ws : Nat) : Obj := .cells #[ptr b, .int .i64 at_, .int .i64 ws] 122

theorem log_new (w : World) (b at_ ws : Nat) : LogAt (w.alloc (logObj b at_ ws)) w.heap.size b at_ ws :=
  ⟨cell_of_row _ _ _ _ _ _ (heap_alloc_new w _), cell_of_row _ _ _ _ _ _ (heap_alloc_new w _), cell_of_row _ _ _ _ _ _ (heap_alloc_new w _)⟩

set_option maxHeartbeats 1000000 in
theorem open_fresh (d : DevL w b L A) (hd : A.dead = false) (at_ ws : Nat) (h8 : at_ % 8 = 0) (h16 : 16 ≤ ws) (hw : at_ + ws ≤ A.n * 8) (h0 : A.now at_ = 0) :
    Calls Tryz.prog 82 #[ptr b, .int .i64 at_, .int .i64 ws] w fun e w' => e = .returned (.tuple #[ptr w.heap.size, .int .i64 0]) ∧ w' = w.alloc (logObj b at_ ws) := by
  have H := words_any b L.bn A.n w d.n8 d.c0
  have f1 : Fr (fun _ => False) w (w.alloc (logObj b at_ ws)) := (Fr.refl _ w).alloc _
  have K := load_ok (d.keptF f1) hd at_ (by omega)
  rw [h0] at K
  have n8 := d.n8
  have e8 : ((at_ : Int) % 8 != 0) = false := by simp; omega
  have bz := b_zero
  have HK := hide K
  clear d hd h0 K f1
  go_enter Tryz.func82, Tryz.ntmps82
  go_wp2_with (go_at_call 80; refine H.mono ?_; rintro e w' ⟨rfl, rfl⟩)
  refine (unhide HK).mono ?_
  rintro e w1 ⟨rfl, rfl⟩
  clear HK H
  go_wp2
  go_ret2
  exact ⟨rfl, rfl⟩

/-- A log whose writes xs are whole, and are to be brought home. -/
structure Sealed (N at_ : Nat) (f : Nat → Int) (xs : List (Int × Int)) : Prop where
  ne : xs ≠ []
  mark : f at_ = marked xs.length
  ent : ∀ i, i < 2 * xs.length → f (at_ + 8 + i) = ent xs i
  out : ∀ x ∈ xs, outside N at_ x.1 (at_ + 8 + 2 * xs.length)
  fit : at_ + 8 + 2 * xs.length ≤ N * 8

/-- What a loss of power may find while xs is brought home. -/
def HomeTorn (N at_ : Nat) (A : Ab) (s : Int) (f : Nat → Int) (xs : List (Int × Int)) : Prop :=
  ∃ f' g, ((f' = f ∧ ∀ j, g j = f j ∨ g j = homed xs.reverse f j) ∨ (f' = homed xs.reverse f ∧ (g = f' ∨ g = upd f' at_ 0))) ∧ Torn N A s f' g

set_option maxHeartbeats 1000000 in
theorem open_sealed (d : DevL w b L A) (h : Calm N free A s f) (hN : N ≤ 8192) (at_ ws : Nat) (h8 : at_ % 8 = 0) (h16 : 16 ≤ ws) (hw : at_ + ws ≤ N * 8) (xs : List (Int × Int)) (sl : Sealed N at_ f xs) (hs : s + 2 * xs.length + 4 < 4294967296) :
    Calls Tryz.prog 82 #[ptr b, .int .i64 at_, .int .i64 ws] w fun e w' =>
      (e = .returned (.tuple #[ptr w.heap.size, .int .i64 0]) ∧ LogAt w' w.heap.size b at_ ws ∧ ∃ L' A', On w b L w' L' A' ∧ ¬ foot b L' w.heap.size ∧ Calm N free A' (s + 2 * xs.length + 4) (upd (homed xs.reverse f) at_ 0)) ∨
      (e = .panicked lost ∧ DM w b L w' fun A' => ¬ free ∧ HomeTorn N at_ A' (s + 2 * xs.length + 4) f xs) := by
  have hlen : xs.length < 4294967296 := by have := sl.fit; omega
  have hfit := sl.fit
  have H := words_any b L.bn A.n w d.n8 d.c0
  have f1 : Fr (fun _ => False) w (w.alloc (logObj b at_ ws)) := (Fr.refl _ w).alloc _
  have d1 := d.keptF f1
  have nf1 : ¬ foot b L w.heap.size := fun hf => by have := d.lt _ hf; omega
  have K := d_load d1 h at_ (by omega)
  rw [sl.mark] at K
  have hAn := h.n
  have SND := sound_ok d1 h.dead (log_new w b at_ ws) xs.length (by rw [hAn]; exact hfit) (fun k hk => by
    obtain ⟨x, hx⟩ : ∃ x, xs[k]? = some x := ⟨_, List.getElem?_eq_getElem hk⟩
    have ho := sl.out x (List.mem_of_getElem? hx)
    rw [h.now, sl.ent (2 * k) (by omega), ent_word hx, hAn]
    have : wrap64 x.1 = x.1 := by have := ho.1; have := ho.2.1; unfold wrap64; omega
    rw [this]; exact ho)
  have BR : ∀ w2, Fr (fun _ => False) (w.alloc (logObj b at_ ws)) w2 → Calls Tryz.prog 95 #[ptr w.heap.size, .int .i64 xs.length] w2 (Ends w2 b L _ _) := fun w2 f2 =>
    bring_dev (d1.keptF f2) ((log_new w b at_ ws).kept f2 (fun h => h)) nf1 h xs sl.ne sl.ent sl.out hfit hN hs
  have e8 : ((at_ : Int) % 8 != 0) = false := by simp; omega
  have n8 := d.n8
  rw [← hAn] at hw
  have ba := b_and xs.length hlen
  have bh := b_high xs.length hlen
  have wn : IntKind.i64.wrap (xs.length : Int) = xs.length := (wrap_small _ (by omega) (by omega)).1
  have HK := hide K; have HS := hide SND; have HB := hide BR; have HF1 := hide f1; have HD1 := hide d1; have HNF := hide nf1; have HD := hide d
  clear K SND BR f1 d1 nf1 sl h hAn d
  generalize hmk : marked xs.length = mk at *
  have HMK := hide hmk
  clear hmk
  go_enter Tryz.func82, Tryz.ntmps82
  go_wp2_with (go_at_call 80; refine H.mono ?_; rintro e w' ⟨rfl, hh⟩; replace hh := hh.symm; subst hh)
  refine (unhide HK).mono ?_
  rintro e w1 ⟨rfl, rfl⟩
  clear HK H
  go_wp2_with fail
  refine (unhide HS).mono ?_
  rintro e w2 ⟨rfl, f2⟩
  have B2 := unhide HB w2 f2
  have HB2 := hide B2; have HF2 := hide f2
  clear B2 f2 HB HS
  go_wp2_with fail
  refine (unhide HB2).mono ?_
  clear HB2
  rintro e w3 (⟨rfl, D⟩ | ⟨rfl, D⟩)
  rotate_left
  · exact ⟨rfl, .inr ⟨rfl, (D.after ((unhide HF1).trans (unhide HF2))).mono fun A' t => t⟩⟩
  obtain ⟨L3, A3, o3, c3⟩ := D.on
  have HO3 := hide o3; have HC3 := hide c3
  clear D o3 c3
  go_wp2
  go_ret2
  have o3 := unhide HO3
  have f2 := unhide HF2
  refine .inl ⟨rfl, ((log_new w b at_ ws).kept f2 (fun h => h)).kept o3.fr (unhide HNF), L3, A3, (On.start (unhide HD)).quiet ((unhide HF1).trans f2) |>.trans o3, fun hf => ?_, unhide HC3⟩
  rcases o3.sub _ hf with e | e
  · exact unhide HNF e
  · have := f2.size
    have : w.heap.size + 1 ≤ w2.heap.size := by simpa using this
    omega
end

/-- No mark; beside the log's own words base stands. -/
structure Clean (at_ ws : Nat) (base f : Nat → Int) : Prop where
  mark : f at_ = 0
  out : ∀ j, (j < at_ ∨ at_ + ws ≤ j) → f j = base j

/-- The writes xs stand whole behind their mark; beside the log each word is as in base or as behind xs. -/
structure Half (N at_ ws : Nat) (base : Nat → Int) (xs : List (Int × Int)) (f : Nat → Int) : Prop where
  whole : Sealed N at_ f xs
  out : ∀ j, (j < at_ ∨ at_ + ws ≤ j) → f j = base j ∨ f j = homed xs.reverse base j

/-- What a loss of power may leave. -/
def Poss (A : Ab) (h : Nat → Int) : Prop := ∀ j, h j = A.now j ∨ h j = A.lasts j

/-- Writes that a log at at_ of ws words takes. -/
structure Takes (N at_ ws : Nat) (xs : List (Int × Int)) : Prop where
  ne : xs ≠ []
  out : ∀ x ∈ xs, outside N at_ x.1 (at_ + ws)
  fit : 16 + 2 * xs.length ≤ ws
  dev : at_ + ws ≤ N * 8

section
variable {N at_ ws : Nat} {base f g h : Nat → Int} {xs : List (Int × Int)}

theorem Sealed.still (s : Sealed N at_ f xs) {j : Nat} (h1 : at_ ≤ j) (h2 : j < at_ + 8 + 2 * xs.length) (k : Nat → Int) : homed xs.reverse k j = k j :=
  homed_other (fun y hy e => by
    have ho := s.out y (List.mem_reverse.1 hy)
    rw [e] at ho
    obtain ⟨_, _, h3⟩ := ho
    omega) k

theorem Half.out' (s : Half N at_ ws base xs f) (j : Nat) (hj : j < at_ ∨ at_ + ws ≤ j) : homed xs.reverse f j = homed xs.reverse base j := homed_again _ _ _ _ (s.out j hj)

theorem Half.done (s : Half N at_ ws base xs f) (hws : 0 < ws) : Clean at_ ws (homed xs.reverse base) (upd (homed xs.reverse f) at_ 0) :=
  ⟨upd_same _ _ _, fun j hj => by rw [upd_other _ _ (by omega)]; exact s.out' j hj⟩

theorem Half.same (s : Half N at_ ws base xs f) (hl : ∀ j, at_ ≤ j → j < at_ + 8 + 2 * xs.length → h j = f j) (ho : ∀ j, (j < at_ ∨ at_ + ws ≤ j) → h j = base j ∨ h j = homed xs.reverse base j) : Half N at_ ws base xs h :=
  ⟨{ s.whole with mark := by rw [hl at_ (Nat.le_refl _) (by omega)]; exact s.whole.mark, ent := fun i hi => by rw [hl _ (by omega) (by omega)]; exact s.whole.ent i hi }, ho⟩

/-- A loss while the writes are brought home. -/
theorem Half.torn (s : Half N at_ ws base xs f) (hws : 0 < ws) {A : Ab} {st : Int} (t : HomeTorn N at_ A st f xs) : ∀ h, Poss A h → Half N at_ ws base xs h ∨ Clean at_ ws (homed xs.reverse base) h := by
  intro h hp
  obtain ⟨f', g, hc, ht⟩ := t
  have hp' : ∀ j, h j = g j ∨ h j = f' j := fun j => by have := hp j; rwa [ht.now, ht.lasts] at this
  rcases hc with ⟨rfl, hg⟩ | ⟨rfl, hg⟩
  · refine .inl (s.same (fun j h1 h2 => ?_) (fun j hj => ?_))
    · have := s.whole.still h1 h2 f'
      rcases hp' j with e | e
      · rcases hg j with e2 | e2
        · rw [e, e2]
        · rw [e, e2, this]
      · exact e
    · have hj' : h j = f' j ∨ h j = homed xs.reverse f' j := by
        rcases hp' j with e | e
        · rcases hg j with e2 | e2
          · exact .inl (e.trans e2)
          · exact .inr (e.trans e2)
        · exact .inl e
      rcases hj' with e | e
      · rw [e]; exact s.out j hj
      · rw [e, s.out' j hj]; exact .inr rfl
  · have other : ∀ j, j ≠ at_ → h j = homed xs.reverse f j := fun j hj => by
      rcases hp' j with e | e
      · rcases hg with rfl | rfl
        · exact e
        · rw [e, upd_other _ _ hj]
      · exact e
    have own : h at_ = f at_ ∨ h at_ = 0 := by
      have := s.whole.still (Nat.le_refl at_) (by omega) f
      rcases hp' at_ with e | e
      · rcases hg with rfl | rfl
        · left; rw [e, this]
        · right; rw [e, upd_same]
      · left; rw [e, this]
    rcases own with e | e
    · refine .inl (s.same (fun j h1 h2 => ?_) (fun j hj => .inr ?_))
      · by_cases hj : j = at_
        · subst hj; exact e
        · rw [other j hj, s.whole.still h1 h2 f]
      · rw [other j (by omega), s.out' j hj]
    · exact .inr ⟨e, fun j hj => by rw [other j (by omega), s.out' j hj]⟩

theorem Takes.outside (t : Takes N at_ ws xs) : ∀ x ∈ xs, outside N at_ x.1 (at_ + 8 + 2 * xs.length) := fun x hx => by
  obtain ⟨h1, h2, h3⟩ := t.out x hx
  have := t.fit
  exact ⟨h1, h2, by omega⟩

/-- Noted, and marked. -/
theorem Clean.half (c : Clean at_ ws base f) (t : Takes N at_ ws xs) : Half N at_ ws base xs (upd (noted at_ xs f (2 * xs.length)) at_ (marked xs.length)) := by
  have hfit := t.fit
  refine ⟨⟨t.ne, upd_same _ _ _, fun i hi => ?_, t.outside, by have := t.dev; omega⟩, fun j hj => .inl ?_⟩
  · rw [upd_other _ _ (by omega)]; unfold noted; rw [if_pos (by omega), show at_ + 8 + i - (at_ + 8) = i by omega]
  · rw [upd_other _ _ (by omega)]; unfold noted; rw [if_neg (by omega)]; exact c.out j hj

/-- A loss while the writes are noted. -/
theorem Clean.noteTorn (c : Clean at_ ws base f) (hfit : 16 + 2 * xs.length ≤ ws) {A : Ab} {st : Int} (hg : ∀ j, (j < at_ + 8 ∨ at_ + 8 + 2 * xs.length ≤ j) → g j = f j) (ht : Torn N A st f g) : ∀ h, Poss A h → Clean at_ ws base h := by
  intro h hp
  have hp' : ∀ j, (j < at_ + 8 ∨ at_ + 8 + 2 * xs.length ≤ j) → h j = f j := fun j hj => by
    have := hp j
    rw [ht.now, ht.lasts, hg j hj] at this
    exact this.elim id id
  exact ⟨(hp' at_ (by omega)).trans c.mark, fun j hj => (hp' j (by omega)).trans (c.out j hj)⟩

/-- A loss while the mark is laid. -/
theorem Clean.markTorn (c : Clean at_ ws base f) (t : Takes N at_ ws xs) {A : Ab} {st : Int} (hg : g = noted at_ xs f (2 * xs.length) ∨ g = upd (noted at_ xs f (2 * xs.length)) at_ (marked xs.length)) (ht : Torn N A st (noted at_ xs f (2 * xs.length)) g) :
    ∀ h, Poss A h → Clean at_ ws base h ∨ Half N at_ ws base xs h := by
  intro h hp
  have hfit := t.fit
  have hp' : ∀ j, h j = g j ∨ h j = noted at_ xs f (2 * xs.length) j := fun j => by have := hp j; rwa [ht.now, ht.lasts] at this
  have other : ∀ j, j ≠ at_ → h j = noted at_ xs f (2 * xs.length) j := fun j hj => by
    rcases hp' j with e | e
    · rcases hg with rfl | rfl
      · exact e
      · rw [e, upd_other _ _ hj]
    · exact e
  have n0 : noted at_ xs f (2 * xs.length) at_ = 0 := by unfold noted; rw [if_neg (by omega)]; exact c.mark
  have own : h at_ = 0 ∨ h at_ = marked xs.length := by
    rcases hp' at_ with e | e
    · rcases hg with rfl | rfl
      · left; rw [e, n0]
      · right; rw [e, upd_same]
    · left; rw [e, n0]
  have out : ∀ j, (j < at_ ∨ at_ + ws ≤ j) → h j = base j := fun j hj => by
    rw [other j (by omega)]; unfold noted; rw [if_neg (by omega)]; exact c.out j hj
  rcases own with e | e
  · exact .inl ⟨e, out⟩
  · refine .inr ((c.half t).same (fun j h1 h2 => ?_) (fun j hj => .inl (out j hj)))
    by_cases hj : j = at_
    · subst hj; rw [e, upd_same]
    · rw [other j hj, upd_other _ _ hj]
end

/-- What a loss of power within a Commit of xs, or an Open behind it, may leave. -/
def LogTorn (N at_ ws : Nat) (base : Nat → Int) (xs : List (Int × Int)) (st : Int) (A : Ab) : Prop :=
  A.n = N ∧ A.steps ≤ st ∧ ∀ h, Poss A h → Clean at_ ws base h ∨ Half N at_ ws base xs h ∨ Clean at_ ws (homed xs.reverse base) h

section
variable {w : World} {b : Nat} {L : Lay} {N : Nat} {free : Prop} {A : Ab} {s : Int} {f base : Nat → Int} {lg at_ ws : Nat}

set_option maxHeartbeats 1000000 in
theorem commit_ok (d : DevL w b L A) (hl : LogAt w lg b at_ ws) (hlg : ¬ foot b L lg) (h : Calm N free A s f) (hc : Clean at_ ws base f) (xb xo cap : Nat) (xs : List (Int × Int)) (hx : WrAt w xb xo xs) (hxb : ¬ foot b L xb)
    (ht : Takes N at_ ws xs) (h8 : at_ % 8 = 0) (hN : N ≤ 8192) (hs : s + 5 * xs.length + 9 < 4294967296) :
    Calls Tryz.prog 55 #[ptr lg, .slice (some ⟨xb, xo, none⟩) xs.length cap] w fun e w' =>
      (e = .returned (.int .i64 0) ∧ DM w b L w' fun A' => ∃ f', Calm N free A' (s + 5 * xs.length + 9) f' ∧ Clean at_ ws (homed xs.reverse base) f') ∨
      (e = .panicked lost ∧ DM w b L w' fun A' => ¬ free ∧ LogTorn N at_ ws base xs (s + 5 * xs.length + 9) A') := by
  have hfit := ht.fit
  have hdev := ht.dev
  have hpos : 0 < xs.length := List.length_pos_iff.2 ht.ne
  have MO : ∀ w2, Fr (fun _ => False) w w2 → Calls Tryz.prog 92 #[ptr lg] w2 fun e w' => e = .returned (.int .i64 (((ws - 16) / 2 : Nat) : Int)) ∧ w' = w2 := fun w2 f2 => most_ok (hl.kept f2 (fun h => h)) (by omega) (by omega)
  have NO : ∀ w2, Fr (fun _ => False) w w2 → Calls Tryz.prog 93 #[ptr lg, .slice (some ⟨xb, xo, none⟩) xs.length cap] w2 (Ends w2 b L _ _) := fun w2 f2 =>
    note_ok (On.start (d.keptF f2)) (hl.kept f2 (fun h => h)) hlg h xb xo cap xs (hx.kept f2 (fun h => h)) hxb (fun x hx => ⟨(ht.out x hx).1, (ht.out x hx).2.1⟩) h8 (by omega) hN (by omega)
  have HD := hide d; have HL := hide hl; have HG := hide hlg; have HC := hide h; have HCL := hide hc; have HX := hide hx; have HXB := hide hxb; have HT := hide ht; have HMO := hide MO; have HNO := hide NO
  have bo := b_or xs.length (by omega)
  have wn : IntKind.u64.wrap (xs.length : Int) = xs.length := (wrap_small _ (by omega) (by omega)).2
  generalize hmk : marked xs.length = mk at *
  have HMK := hide hmk
  clear d hl hlg h hc hx hxb ht MO NO hmk
  generalize hlen : xs.length = len at *
  have HLEN := hide hlen
  clear hlen
  go_enter Tryz.func55, Tryz.ntmps55
  go_wp2
  go_loopw [9] (fun i wr => ∃ k : Nat, k ≤ len ∧ i = .int .i64 k ∧ Fr (fun _ => False) w wr) (fun i wr => len - (intOf i).toNat)
  case atStart => exact ⟨0, Nat.zero_le _, rfl, Fr.refl _ _⟩
  case round =>
    obtain ⟨k, hk, rfl, fk⟩ := hrel
    by_cases hlt : k < len
    · obtain ⟨x, hxk⟩ : ∃ x, xs[k]? = some x := ⟨_, List.getElem?_eq_getElem (by rw [unhide HLEN]; exact hlt)⟩
      have ho := (unhide HT).out x (List.mem_of_getElem? hxk)
      obtain ⟨cw, cv⟩ := (unhide HX).kept fk (fun h => h) k x hxk
      have HFK := hide fk; have HOU := hide ho
      clear fk hxk ho
      go_wp2
      obtain ⟨W1, hW1⟩ : ∃ W1, wr.alloc (.cells #[.int .i64 x.1, .int .u64 x.2] 104) = W1 := ⟨_, rfl⟩
      have f1 : Fr (fun _ => False) w W1 := hW1 ▸ (unhide HFK).alloc _
      have x0 : W1.cell? ⟨wr.heap.size, 0, none⟩ = some (.int .i64 x.1) := by rw [← hW1]; exact cell_of_row _ _ _ _ _ _ (heap_alloc_new wr _)
      rw [hW1]
      generalize wr.heap.size = bx at *
      have l1 := (unhide HL).kept f1 (fun h => h)
      have d1 := (unhide HD).keptF f1
      have c1 := l1.c1
      have c2 := l1.c2
      have hn := (unhide HC).n
      have d0 := d1.c0
      rw [hn] at d0
      have HF1 := hide f1; have HL1 := hide l1; have HD0 := hide d0
      clear hW1 f1 l1 d1 cw cv HFK hn d0
      refine region_tailP 13 (by kernel_rfl) (by kernel_rfl) ?_
      simp only [List.take_succ_cons, List.take_zero, List.drop_succ_cons, List.drop_zero]
      repeat (go_big_quiet_step (first | (go_at_call 91; exact Calls.quiet_of_same (outside_yes ((unhide HL1).drewN _) hN (unhide HD0) _ _ (unhide HOU)))))
      refine wpQuiet_nil ?_
      rintro _ ⟨nq, rfl⟩
      clear c1 c2 x0
      go_wp2
      exact ⟨⟨k + 1, by omega, by go_num, (unhide HF1).drewN _⟩, by simp [intOf]; omega⟩
    · obtain rfl : k = len := by omega
      have M1 := unhide HMO wr fk
      have N1 := unhide HNO wr fk
      have HM1 := hide M1; have HN1 := hide N1; have HFK := hide fk
      have hm : k ≤ (ws - 16) / 2 := by omega
      have hk0 : ((k : Int) == 0) = false := by simp; omega
      clear fk M1 N1 HMO HNO HX HXB
      go_wp2_with (go_at_call 92; refine (unhide HM1).mono ?_; rintro e w' ⟨rfl, hh⟩; replace hh := hh.symm; subst hh)
      refine (unhide HN1).mono ?_
      clear HN1 HM1
      rintro e w1 (⟨rfl, D⟩ | ⟨rfl, D⟩)
      rotate_left
      · refine ⟨rfl, .inr ⟨rfl, (D.after (unhide HFK)).mono fun A' t => ?_⟩⟩
        obtain ⟨t1, g, t2, t3⟩ := t
        have hl := unhide HLEN
        exact ⟨t1, t3.n, Int.le_trans t3.st (by omega), fun h hp => .inl ((unhide HCL).noteTorn (xs := xs) (by omega) (by rw [hl]; exact t2) t3 h hp)⟩
      obtain ⟨L1, A1, o1, c1⟩ := D.on
      have lr := (unhide HL).kept (unhide HFK) (fun h => h)
      have M2 := mark_ok o1 lr (unhide HG) c1 (by omega) (by omega) mk
      have HM2 := hide M2; have HLR := hide lr
      clear D o1 c1 M2 lr
      go_wp2_with fail
      refine (unhide HM2).mono ?_
      clear HM2
      rintro e w2 (⟨rfl, D⟩ | ⟨rfl, D⟩)
      rotate_left
      · refine ⟨rfl, .inr ⟨rfl, (D.after (unhide HFK)).mono fun A' t => ?_⟩⟩
        obtain ⟨t1, g, t2, t3⟩ := t
        have hl := unhide HLEN
        have hm := unhide HMK
        rw [← hm, ← hl] at t2
        rw [← hl] at t3
        refine ⟨t1, t3.n, Int.le_trans t3.st (by omega), fun h hp => ?_⟩
        rcases (unhide HCL).markTorn (unhide HT) t2 t3 h hp with e | e
        · exact .inl e
        · exact .inr (.inl e)
      obtain ⟨L2, A2, o2, c2⟩ := D.on
      have hl := unhide HLEN
      have hm := unhide HMK
      have hf := (unhide HCL).half (unhide HT)
      rw [← hm, ← hl] at c2
      have lgw : lg < wr.heap.size := World.block_lt_of_cell? _ _ (unhide HLR).c0
      have B2 := bring_dev o2.d (o2.log (unhide HLR) (unhide HG)) (o2.other lgw (unhide HG)) c2 xs (unhide HT).ne hf.whole.ent hf.whole.out hf.whole.fit hN (by omega)
      rw [hl] at B2
      have HB2 := hide B2; have HO2 := hide o2; have HHF := hide hf
      clear B2 o2 c2 D hf hl hm lgw
      go_wp2_with fail
      refine (unhide HB2).mono ?_
      clear HB2
      rintro e w3 (⟨rfl, D⟩ | ⟨rfl, D⟩)
      rotate_left
      · refine ⟨rfl, .inr ⟨rfl, (((unhide HO2).dmd D).after (unhide HFK)).mono fun A' t => ?_⟩⟩
        have hl := unhide HLEN
        obtain ⟨t1, f', g, t2, t3⟩ := t
        refine ⟨t1, t3.n, Int.le_trans t3.st (by omega), fun h hp => ?_⟩
        have hf := unhide HHF
        rcases hf.torn (by omega) ⟨f', g, by rw [← hl] at t2; exact t2, t3⟩ h hp with e | e
        · exact .inr (.inl e)
        · exact .inr (.inr e)
      have DD := hide D
      clear D
      go_wp2
      go_ret
      refine .inl ⟨rfl, (((unhide HO2).dmd (unhide DD)).after (unhide HFK)).mono fun A' t => ⟨_, t.more (by omega), ?_⟩⟩
      have hf := (unhide HHF).done (by omega)
      rw [unhide HLEN] at hf
      exact hf
end

section
variable {w : World} {b : Nat} {L : Lay} {N : Nat} {A : Ab} {lg at_ ws : Nat}

set_option maxHeartbeats 1000000 in
theorem commit_none (hl : LogAt w lg b at_ ws) (h16 : 16 ≤ ws) (hw : ws ≤ 65536) (la : Option Addr) (cap : Nat) :
    Calls Tryz.prog 55 #[ptr lg, .slice la 0 cap] w fun e w' => e = .returned (.int .i64 0) ∧ w' = w := by
  have M := most_ok hl h16 hw
  have HM := hide M
  clear M hl
  go_enter Tryz.func55, Tryz.ntmps55
  go_wp2
  go_loopw [9] (fun i wr => i = .int .i64 0 ∧ wr = w) (fun i wr => 0)
  case atStart => exact ⟨rfl, rfl⟩
  case round =>
    obtain ⟨rfl, rfl⟩ := hrel
    go_wp2_with (go_at_call 92; refine (unhide HM).mono ?_; rintro e w' ⟨rfl, hh⟩; replace hh := hh.symm; subst hh)
    go_ret
    exact ⟨rfl, rfl⟩

set_option maxHeartbeats 1000000 in
theorem commit_arg (d : DevL w b L A) (hl : LogAt w lg b at_ ws) (xb xo cap : Nat) (xs : List (Int × Int)) (hx : WrAt w xb xo xs) (hw : at_ + ws ≤ 65536) (hlen4 : xs.length < 4294967296)
    (k0 : Nat) (hk0 : k0 < xs.length) (hb : ¬ outside A.n at_ (xs.getD k0 (0, 0)).1 (at_ + ws)) (ho : ∀ (k : Nat) (x : Int × Int), k < k0 → xs[k]? = some x → outside A.n at_ x.1 (at_ + ws)) :
    Calls Tryz.prog 55 #[ptr lg, .slice (some ⟨xb, xo, none⟩) xs.length cap] w fun e w' => e = .returned (.int .i64 1) ∧ Fr (fun _ => False) w w'  := by
  have n8 := d.n8
  have HD := hide d; have HL := hide hl; have HX := hide hx; have HO := hide ho; have HB := hide hb
  clear d hl hx ho hb
  generalize hlen : xs.length = len at *
  have HLEN := hide hlen
  clear hlen
  go_enter Tryz.func55, Tryz.ntmps55
  go_wp2
  go_loopw [9] (fun i wr => ∃ k : Nat, k ≤ k0 ∧ i = .int .i64 k ∧ Fr (fun _ => False) w wr) (fun i wr => k0 - (intOf i).toNat)
  case atStart => exact ⟨0, Nat.zero_le _, rfl, Fr.refl _ _⟩
  case round =>
    obtain ⟨k, hk, rfl, fk⟩ := hrel
    by_cases hlt : k < k0
    · obtain ⟨x, hxk⟩ : ∃ x, xs[k]? = some x := ⟨_, List.getElem?_eq_getElem (by rw [unhide HLEN]; omega)⟩
      have ho := unhide HO k x hlt hxk
      obtain ⟨cw, cv⟩ := (unhide HX).kept fk (fun h => h) k x hxk
      have HFK := hide fk; have HOU := hide ho
      clear fk hxk ho
      go_wp2
      obtain ⟨W1, hW1⟩ : ∃ W1, wr.alloc (.cells #[.int .i64 x.1, .int .u64 x.2] 104) = W1 := ⟨_, rfl⟩
      have f1 : Fr (fun _ => False) w W1 := hW1 ▸ (unhide HFK).alloc _
      have x0 : W1.cell? ⟨wr.heap.size, 0, none⟩ = some (.int .i64 x.1) := by rw [← hW1]; exact cell_of_row _ _ _ _ _ _ (heap_alloc_new wr _)
      rw [hW1]
      generalize wr.heap.size = bx at *
      have l1 := (unhide HL).kept f1 (fun h => h)
      have d1 := (unhide HD).keptF f1
      have c1 := l1.c1
      have c2 := l1.c2
      have d0 := d1.c0
      have HF1 := hide f1; have HL1 := hide l1; have HD0 := hide d0
      clear hW1 f1 l1 d1 cw cv HFK d0
      refine region_tailP 13 (by kernel_rfl) (by kernel_rfl) ?_
      simp only [List.take_succ_cons, List.take_zero, List.drop_succ_cons, List.drop_zero]
      repeat (go_big_quiet_step (first | (go_at_call 91; exact Calls.quiet_of_same (outside_yes ((unhide HL1).drewN _) n8 (unhide HD0) _ _ (unhide HOU)))))
      refine wpQuiet_nil ?_
      rintro _ ⟨nq, rfl⟩
      clear c1 c2 x0
      go_wp2
      exact ⟨⟨k + 1, by omega, by go_num, (unhide HF1).drewN _⟩, by simp [intOf]; omega⟩
    · obtain rfl : k = k0 := by omega
      obtain ⟨x, hxk⟩ : ∃ x, xs[k]? = some x := ⟨_, List.getElem?_eq_getElem (by rw [unhide HLEN]; omega)⟩
      have ho := (show ¬ outside A.n at_ x.1 (at_ + ws) from by have := unhide HB; rwa [List.getD_eq_getElem?_getD, hxk] at this)
      obtain ⟨cw, cv⟩ := (unhide HX).kept fk (fun h => h) k x hxk
      have HFK := hide fk; have HOU := hide ho
      clear fk hxk ho
      go_wp2
      obtain ⟨W1, hW1⟩ : ∃ W1, wr.alloc (.cells #[.int .i64 x.1, .int .u64 x.2] 104) = W1 := ⟨_, rfl⟩
      have f1 : Fr (fun _ => False) w W1 := hW1 ▸ (unhide HFK).alloc _
      have x0 : W1.cell? ⟨wr.heap.size, 0, none⟩ = some (.int .i64 x.1) := by rw [← hW1]; exact cell_of_row _ _ _ _ _ _ (heap_alloc_new wr _)
      rw [hW1]
      generalize wr.heap.size = bx at *
      have l1 := (unhide HL).kept f1 (fun h => h)
      have d1 := (unhide HD).keptF f1
      have c1 := l1.c1
      have c2 := l1.c2
      have d0 := d1.c0
      have HF1 := hide f1; have HL1 := hide l1; have HD0 := hide d0
      clear hW1 f1 l1 d1 cw cv HFK d0
      refine region_tailP 13 (by kernel_rfl) (by kernel_rfl) ?_
      simp only [List.take_succ_cons, List.take_zero, List.drop_succ_cons, List.drop_zero]
      repeat (go_big_quiet_step (first | (go_at_call 91; exact Calls.quiet_of_same (outside_no ((unhide HL1).drewN _) n8 (unhide HD0) _ _ (unhide HOU)))))
      refine wpQuiet_nil ?_
      rintro _ ⟨nq, rfl⟩
      clear c1 c2 x0
      go_wp2
      go_ret
      exact ⟨rfl, (unhide HF1).drewN _⟩

set_option maxHeartbeats 1000000 in
theorem commit_big (d : DevL w b L A) (hl : LogAt w lg b at_ ws) (xb xo cap : Nat) (xs : List (Int × Int)) (hx : WrAt w xb xo xs) (h16 : 16 ≤ ws) (hw : at_ + ws ≤ 65536) (hlen4 : xs.length < 4294967296)
    (hb : (ws - 16) / 2 < xs.length) (ho : ∀ (k : Nat) (x : Int × Int), xs[k]? = some x → outside A.n at_ x.1 (at_ + ws)) :
    Calls Tryz.prog 55 #[ptr lg, .slice (some ⟨xb, xo, none⟩) xs.length cap] w fun e w' => e = .returned (.int .i64 5) ∧ Fr (fun _ => False) w w'  := by
  have n8 := d.n8
  have HD := hide d; have HL := hide hl; have HX := hide hx; have HO := hide ho
  clear d hl hx ho
  generalize hlen : xs.length = len at *
  have HLEN := hide hlen
  clear hlen
  go_enter Tryz.func55, Tryz.ntmps55
  go_wp2
  go_loopw [9] (fun i wr => ∃ k : Nat, k ≤ len ∧ i = .int .i64 k ∧ Fr (fun _ => False) w wr) (fun i wr => len - (intOf i).toNat)
  case atStart => exact ⟨0, Nat.zero_le _, rfl, Fr.refl _ _⟩
  case round =>
    obtain ⟨k, hk, rfl, fk⟩ := hrel
    by_cases hlt : k < len
    · obtain ⟨x, hxk⟩ : ∃ x, xs[k]? = some x := ⟨_, List.getElem?_eq_getElem (by rw [unhide HLEN]; omega)⟩
      have ho := unhide HO k x hxk
      obtain ⟨cw, cv⟩ := (unhide HX).kept fk (fun h => h) k x hxk
      have HFK := hide fk; have HOU := hide ho
      clear fk hxk ho
      go_wp2
      obtain ⟨W1, hW1⟩ : ∃ W1, wr.alloc (.cells #[.int .i64 x.1, .int .u64 x.2] 104) = W1 := ⟨_, rfl⟩
      have f1 : Fr (fun _ => False) w W1 := hW1 ▸ (unhide HFK).alloc _
      have x0 : W1.cell? ⟨wr.heap.size, 0, none⟩ = some (.int .i64 x.1) := by rw [← hW1]; exact cell_of_row _ _ _ _ _ _ (heap_alloc_new wr _)
      rw [hW1]
      generalize wr.heap.size = bx at *
      have l1 := (unhide HL).kept f1 (fun h => h)
      have d1 := (unhide HD).keptF f1
      have c1 := l1.c1
      have c2 := l1.c2
      have d0 := d1.c0
      have HF1 := hide f1; have HL1 := hide l1; have HD0 := hide d0
      clear hW1 f1 l1 d1 cw cv HFK d0
      refine region_tailP 13 (by kernel_rfl) (by kernel_rfl) ?_
      simp only [List.take_succ_cons, List.take_zero, List.drop_succ_cons, List.drop_zero]
      repeat (go_big_quiet_step (first | (go_at_call 91; exact Calls.quiet_of_same (outside_yes ((unhide HL1).drewN _) n8 (unhide HD0) _ _ (unhide HOU)))))
      refine wpQuiet_nil ?_
      rintro _ ⟨nq, rfl⟩
      clear c1 c2 x0
      go_wp2
      exact ⟨⟨k + 1, by omega, by go_num, (unhide HF1).drewN _⟩, by simp [intOf]; omega⟩
    · obtain rfl : k = len := by omega
      have M1 := most_ok ((unhide HL).kept fk (fun h => h)) h16 (by omega)
      have HM1 := hide M1; have HFK := hide fk
      clear fk M1 HX
      go_wp2_with (go_at_call 92; refine (unhide HM1).mono ?_; rintro e w' ⟨rfl, hh⟩; replace hh := hh.symm; subst hh)
      go_ret
      exact ⟨rfl, unhide HFK⟩
end

section
variable {w : World} {b : Nat} {L : Lay} {N : Nat} {A : Ab} {s : Int} {f : Nat → Int} {free : Prop}

theorem Mid.poss {g : Nat → Int} {fl : List Nat} (h : Mid N free A s f g fl) {k : Nat → Int} (hp : Poss A k) : ∀ j, k j = g j ∨ k j = f j := fun j => by
  have := hp j
  rwa [h.now, h.lasts] at this
theorem calm_poss (h : Calm N free A s f) {k : Nat → Int} (hp : Poss A k) : k = f := funext fun j => (h.poss hp j).elim id id
theorem Clean.of_poss {at_ ws : Nat} {base : Nat → Int} (c : Clean at_ ws base f) (h : Calm N free A s f) {k : Nat → Int} (hp : Poss A k) : Clean at_ ws base k := by rw [calm_poss h hp]; exact c

theorem powered_calm (hn : A.n = N) (hs : A.steps ≤ s) (flip : Bool) (named : Nat → Bool) : ∃ h, Poss A h ∧ ∀ free, Calm N free (A.powered flip named) s h := by
  refine ⟨fun j => if named j = flip then A.lasts j else A.now j, fun j => ?_, fun free => ⟨hn, rfl, by simp [Ab.powered], fun _ => by simp [Ab.powered], hs, fun _ => rfl, fun _ => rfl, fun _ => by simp [Ab.powered]⟩⟩
  by_cases e : named j = flip
  · right; simp [e]
  · left; simp [e]

/-- A new device with a log on it. -/
structure Opened (w : World) (b lg : Nat) (L : Lay) (w' : World) : Prop where
  d : DevL w' b L (Ab.fresh 32)
  log : LogAt w' lg b 0 64
  nlg : ¬ foot b L lg
  fr : Fr (fun _ => False) w w'
  new : ∀ k, foot b L k → w.heap.size ≤ k
  nl : w.heap.size ≤ lg

theorem clean0 (at_ ws : Nat) : Clean at_ ws (fun _ => 0) (fun _ => 0) := ⟨rfl, fun _ _ => rfl⟩

end
end Go.Proofs.YtdgobaknbjlahaaGreatDoor
