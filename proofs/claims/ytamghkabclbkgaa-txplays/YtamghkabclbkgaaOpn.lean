/- redo.Open. -/
import Derived.Test.YtamghkabclbkgaaMask
namespace Go.Proofs.Ytamghkabclbkgaa
open Go.RowKit

section
variable {w : World} {b : Nat} {L : Lay} {N : Nat} {free : Prop} {A : Ab} {s : Int} {f : Nat → Int}

set_option maxHeartbeats 400000 in
theorem open_nil (at_ ws : Int) (w : World) : Calls Try.prog 51 #[.pointer none, .int .i64 at_, .int .i64 ws] w fun e w' => e = .returned (.tuple #[.pointer none, .int .i64 1]) ∧ w' = w := by
  go_enter Try.func51, Try.ntmps51
  go_wp2
  go_ret2
  exact ⟨rfl, rfl⟩

set_option maxHeartbeats 400000 in
theorem open_arg (d : DevL w b L A) (at_ ws : Int) (h64 : at_ < 9223372036854775808) (hb : ¬ (0 ≤ at_ ∧ at_ % 8 = 0 ∧ 16 ≤ ws ∧ ws ≤ A.n * 8 - at_)) :
    Calls Try.prog 51 #[ptr b, .int .i64 at_, .int .i64 ws] w fun e w' => e = .returned (.tuple #[.pointer none, .int .i64 1]) ∧ w' = w := by
  have H := words_any b L.bn A.n w d.n8 d.c0
  have n8 := d.n8
  clear d
  by_cases h1 : at_ < 0
  · clear hb
    go_enter Try.func51, Try.ntmps51
    go_wp2
    go_ret2
    exact ⟨rfl, rfl⟩
  have h1' : 0 ≤ at_ := by omega
  clear h1
  by_cases h2 : at_ % 8 = 0
  · by_cases h3 : ws < 16
    · have e8 : (at_ % 8 != 0) = false := by simp [h2]
      clear hb h2
      go_enter Try.func51, Try.ntmps51
      go_wp2
      go_ret2
      exact ⟨rfl, rfl⟩
    · have h4 : (A.n : Int) * 8 - at_ < ws := Classical.byContradiction fun hn => hb ⟨h1', h2, by omega, by omega⟩
      have e8 : (at_ % 8 != 0) = false := by simp [h2]
      have h3' : 16 ≤ ws := by omega
      clear hb h2 h3
      go_enter Try.func51, Try.ntmps51
      go_wp2_with (go_at_call 46; refine H.mono ?_; rintro e w' ⟨rfl, rfl⟩)
      go_ret2
      exact ⟨rfl, rfl⟩
  · have e8 : (at_ % 8 != 0) = true := by simp [h2]
    clear hb h2
    go_enter Try.func51, Try.ntmps51
    go_wp2
    go_ret2
    exact ⟨rfl, rfl⟩

/-- The block of a log. -/
abbrev logObj (b at_ ws : Nat) : Obj := .cells #[ptr b, .int .i64 at_, .int .i64 ws] 87

theorem log_new (w : World) (b at_ ws : Nat) : LogAt (w.alloc (logObj b at_ ws)) w.heap.size b at_ ws :=
  ⟨cell_of_row _ _ _ _ _ _ (heap_alloc_new w _), cell_of_row _ _ _ _ _ _ (heap_alloc_new w _), cell_of_row _ _ _ _ _ _ (heap_alloc_new w _)⟩

set_option maxHeartbeats 1000000 in
theorem open_fresh (d : DevL w b L A) (hd : A.dead = false) (at_ ws : Nat) (h8 : at_ % 8 = 0) (h16 : 16 ≤ ws) (hw : at_ + ws ≤ A.n * 8) (h0 : A.now at_ = 0) :
    Calls Try.prog 51 #[ptr b, .int .i64 at_, .int .i64 ws] w fun e w' => e = .returned (.tuple #[ptr w.heap.size, .int .i64 0]) ∧ w' = w.alloc (logObj b at_ ws) := by
  have H := words_any b L.bn A.n w d.n8 d.c0
  have f1 : Fr (fun _ => False) w (w.alloc (logObj b at_ ws)) := (Fr.refl _ w).alloc _
  have K := load_ok (d.keptF f1) hd at_ (by omega)
  rw [h0] at K
  have n8 := d.n8
  have e8 : ((at_ : Int) % 8 != 0) = false := by simp; omega
  have bz := b_zero
  have HK := hide K
  clear d hd h0 K f1
  go_enter Try.func51, Try.ntmps51
  go_wp2_with (go_at_call 46; refine H.mono ?_; rintro e w' ⟨rfl, rfl⟩)
  refine (unhide HK).mono ?_
  rintro e w1 ⟨rfl, rfl⟩
  clear HK H
  go_wp2
  go_ret2
  exact ⟨rfl, rfl⟩

/-- A log whose writes xs are whole, and are to be brought home. -/
structure Sealed (N at_ : Nat) (f : Nat → Int) (xs : List (Int × Int)) : Prop where
  ne : xs ≠ []
  mark : f at_ = marked xs.length
  ent : ∀ i, i < 2 * xs.length → f (at_ + 8 + i) = ent xs i
  out : ∀ x ∈ xs, outside N at_ x.1 (at_ + 8 + 2 * xs.length)
  fit : at_ + 8 + 2 * xs.length ≤ N * 8

/-- What a loss of power may find while xs is brought home. -/
def HomeTorn (N at_ : Nat) (A : Ab) (s : Int) (f : Nat → Int) (xs : List (Int × Int)) : Prop :=
  ∃ f' g, ((f' = f ∧ ∀ j, g j = f j ∨ g j = homed xs.reverse f j) ∨ (f' = homed xs.reverse f ∧ (g = f' ∨ g = upd f' at_ 0))) ∧ Torn N A s f' g

set_option maxHeartbeats 1000000 in
theorem open_sealed (d : DevL w b L A) (h : Calm N free A s f) (hN : N ≤ 8192) (at_ ws : Nat) (h8 : at_ % 8 = 0) (h16 : 16 ≤ ws) (hw : at_ + ws ≤ N * 8) (xs : List (Int × Int)) (sl : Sealed N at_ f xs) (hs : s + 2 * xs.length + 4 < 4294967296) :
    Calls Try.prog 51 #[ptr b, .int .i64 at_, .int .i64 ws] w fun e w' =>
      (e = .returned (.tuple #[ptr w.heap.size, .int .i64 0]) ∧ LogAt w' w.heap.size b at_ ws ∧ ∃ L' A', On w b L w' L' A' ∧ ¬ foot b L' w.heap.size ∧ Calm N free A' (s + 2 * xs.length + 4) (upd (homed xs.reverse f) at_ 0)) ∨
      (e = .panicked lost ∧ DM w b L w' fun A' => ¬ free ∧ HomeTorn N at_ A' (s + 2 * xs.length + 4) f xs) := by
  have hlen : xs.length < 4294967296 := by have := sl.fit; omega
  have hfit := sl.fit
  have H := words_any b L.bn A.n w d.n8 d.c0
  have f1 : Fr (fun _ => False) w (w.alloc (logObj b at_ ws)) := (Fr.refl _ w).alloc _
  have d1 := d.keptF f1
  have nf1 : ¬ foot b L w.heap.size := fun hf => by have := d.lt _ hf; omega
  have K := d_load d1 h at_ (by omega)
  rw [sl.mark] at K
  have hAn := h.n
  have SND := sound_ok d1 h.dead (log_new w b at_ ws) xs.length (by rw [hAn]; exact hfit) (fun k hk => by
    obtain ⟨x, hx⟩ : ∃ x, xs[k]? = some x := ⟨_, List.getElem?_eq_getElem hk⟩
    have ho := sl.out x (List.mem_of_getElem? hx)
    rw [h.now, sl.ent (2 * k) (by omega), ent_word hx, hAn]
    have : wrap64 x.1 = x.1 := by have := ho.1; have := ho.2.1; unfold wrap64; omega
    rw [this]; exact ho)
  have BR : ∀ w2, Fr (fun _ => False) (w.alloc (logObj b at_ ws)) w2 → Calls Try.prog 64 #[ptr w.heap.size, .int .i64 xs.length] w2 (Ends w2 b L _ _) := fun w2 f2 =>
    bring_dev (d1.keptF f2) ((log_new w b at_ ws).kept f2 (fun h => h)) nf1 h xs sl.ne sl.ent sl.out hfit hN hs
  have e8 : ((at_ : Int) % 8 != 0) = false := by simp; omega
  have n8 := d.n8
  rw [← hAn] at hw
  have ba := b_and xs.length hlen
  have bh := b_high xs.length hlen
  have wn : IntKind.i64.wrap (xs.length : Int) = xs.length := (wrap_small _ (by omega) (by omega)).1
  have HK := hide K; have HS := hide SND; have HB := hide BR; have HF1 := hide f1; have HD1 := hide d1; have HNF := hide nf1; have HD := hide d
  clear K SND BR f1 d1 nf1 sl h hAn d
  generalize hmk : marked xs.length = mk at *
  have HMK := hide hmk
  clear hmk
  go_enter Try.func51, Try.ntmps51
  go_wp2_with (go_at_call 46; refine H.mono ?_; rintro e w' ⟨rfl, hh⟩; replace hh := hh.symm; subst hh)
  refine (unhide HK).mono ?_
  rintro e w1 ⟨rfl, rfl⟩
  clear HK H
  go_wp2_with fail
  refine (unhide HS).mono ?_
  rintro e w2 ⟨rfl, f2⟩
  have B2 := unhide HB w2 f2
  have HB2 := hide B2; have HF2 := hide f2
  clear B2 f2 HB HS
  go_wp2_with fail
  refine (unhide HB2).mono ?_
  clear HB2
  rintro e w3 (⟨rfl, D⟩ | ⟨rfl, D⟩)
  rotate_left
  · exact ⟨rfl, .inr ⟨rfl, (D.after ((unhide HF1).trans (unhide HF2))).mono fun A' t => t⟩⟩
  obtain ⟨L3, A3, o3, c3⟩ := D.on
  have HO3 := hide o3; have HC3 := hide c3
  clear D o3 c3
  go_wp2
  go_ret2
  have o3 := unhide HO3
  have f2 := unhide HF2
  refine .inl ⟨rfl, ((log_new w b at_ ws).kept f2 (fun h => h)).kept o3.fr (unhide HNF), L3, A3, (On.start (unhide HD)).quiet ((unhide HF1).trans f2) |>.trans o3, fun hf => ?_, unhide HC3⟩
  rcases o3.sub _ hf with e | e
  · exact unhide HNF e
  · have := f2.size
    have : w.heap.size + 1 ≤ w2.heap.size := by simpa using this
    omega
end
end Go.Proofs.Ytamghkabclbkgaa
