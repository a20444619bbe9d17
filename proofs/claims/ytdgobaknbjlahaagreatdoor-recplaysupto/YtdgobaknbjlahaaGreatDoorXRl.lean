/- Joined: Rl Rm Rn Rr Rp. -/
import Derived.Test.YtdgobaknbjlahaaGreatDoorXRj
import Derived.Test.YtdgobaknbjlahaaGreatDoorXRe
import Derived.Test.YtdgobaknbjlahaaGreatDoorGFll
namespace Go.Proofs.YtdgobaknbjlahaaGreatDoor
open Go.RowKit

section
theorem Inv.apartB {nu : Nat} {F : Nat → Nat → Bool} {K : Nat → Nat} {u v : Nat} (h : Inv nu F K (fun _ => 0)) (hu : K u ≠ 0) (hv : K v ≠ 0) (hlt : u < v) : u + 2 ^ lv (K u) ≤ v := by
  refine Classical.byContradiction fun hn => ?_
  obtain ⟨h1, _, h3⟩ := h.lift hu
  have hd : v / 2 ^ lv (K u) = u / 2 ^ lv (K u) := by
    have e : u = 2 ^ lv (K u) * (u / 2 ^ lv (K u)) := by rw [Nat.mul_comm]; exact h3.symm
    have p := two_pos (lv (K u))
    generalize u / 2 ^ lv (K u) = c at *
    generalize 2 ^ lv (K u) = Y at *
    refine Nat.div_eq_of_lt_le ?_ ?_
    · rw [Nat.mul_comm]; omega
    · rw [Nat.add_mul, Nat.mul_comm c Y]; omega
  have := h1.unasked (u := v) (h.asks v hv).1 (by unfold ind; rw [if_pos hd])
  unfold setK at this
  rw [if_neg (by omega)] at this
  exact hv this

theorem snoc_at {l : List Nat} {u k v : Nat} (h : (l ++ [u])[k]? = some v) : (k < l.length ∧ l[k]? = some v) ∨ (k = l.length ∧ v = u) := by
  by_cases hk : k < l.length
  · rw [List.getElem?_append_left hk] at h; exact .inl ⟨hk, h⟩
  · rw [List.getElem?_append_right (by omega)] at h
    have h2 := (List.getElem?_eq_some_iff.1 h).1
    simp only [List.length_singleton] at h2
    have e : k - l.length = 0 := by omega
    rw [e] at h
    simp at h
    exact .inr ⟨by omega, h.symm⟩

/-- Pieces of xs words stand at the units us: they were free; what lies in them is nought; nothing else has turned. -/
structure Tkf (nu : Nat) (f : Nat → Int) (us xs : List Nat) (g : Nat → Int) : Prop where
  len : us.length = xs.length
  st : HpS nu g
  nd : us.Nodup
  was : ∀ u ∈ us, ask nu f u = 0
  ak : ∀ v, v ∉ us → ask nu g v = ask nu f v
  is : ∀ (k u x : Nat), us[k]? = some u → xs[k]? = some x → ask nu g u = x
  zero : ∀ (k u x : Nat), us[k]? = some u → xs[k]? = some x → ∀ i, fi nu + 8 * u ≤ i → i < fi nu + 8 * u + 8 * 2 ^ lv x → g i = 0
  keep : ∀ i, fi nu ≤ i → (∀ (k u x : Nat), us[k]? = some u → xs[k]? = some x → i < fi nu + 8 * u ∨ fi nu + 8 * u + 8 * 2 ^ lv x ≤ i) → g i = f i
  root : ∀ i, 2 ≤ i → i < 18 → g i = f i

theorem Tkf.not_mem {nu : Nat} {f g : Nat → Int} {us xs : List Nat} (t : Tkf nu f us xs g) (hx : ∀ x ∈ xs, 1 ≤ x) {u : Nat} (h : ask nu g u = 0) : u ∉ us := fun hm => by
  obtain ⟨k, hk⟩ := List.getElem?_of_mem hm
  have hl := (List.getElem?_eq_some_iff.1 hk).1
  obtain ⟨x, hxk⟩ : ∃ x, xs[k]? = some x := ⟨_, List.getElem?_eq_getElem (by rw [← t.len]; exact hl)⟩
  have := t.is k u x hk hxk
  have := hx x (List.mem_of_getElem? hxk)
  omega

theorem Takn.facts {nu : Nat} {f g : Nat → Int} {us xs : List Nat} (s : HpS nu f) (t : Takn nu f us xs g) (hx : ∀ x ∈ xs, 1 ≤ x) : Tkf nu f us xs g := by
  induction t using Takn.ind with
  | nil => exact ⟨rfl, s, by simp, by simp, fun _ _ => rfl, by simp, by simp, fun _ _ _ => rfl, fun _ _ _ => rfl⟩
  | snoc us xs g g' u x t tk ih =>
    have ih := ih (fun y hy => hx y (by simp [hy]))
    have hxs : ∀ y ∈ xs, 1 ≤ y := fun y hy => hx y (by simp [hy])
    have hx1 : 1 ≤ x := hx x (by simp)
    have hu : u ∉ us := ih.not_mem hxs tk.was
    have hne : ∀ {k v : Nat}, us[k]? = some v → v ≠ u := fun h e => hu (e ▸ List.mem_of_getElem? h)
    have akn : ∀ v, v ≠ u → ask nu g' v = ask nu g v := fun v hv => by rw [tk.ak]; simp [setK, hv]
    have aku : ask nu g' u = x := by rw [tk.ak]; simp [setK]
    have is' : ∀ (k v y : Nat), (us ++ [u])[k]? = some v → (xs ++ [x])[k]? = some y → (k < us.length ∧ us[k]? = some v ∧ xs[k]? = some y) ∨ (v = u ∧ y = x) := by
      intro k v y h1 h2
      rcases snoc_at h1 with ⟨a1, a2⟩ | ⟨a1, a2⟩
      · rcases snoc_at h2 with ⟨b1, b2⟩ | ⟨b1, b2⟩
        · exact .inl ⟨a1, a2, b2⟩
        · have := ih.len; omega
      · rcases snoc_at h2 with ⟨b1, b2⟩ | ⟨b1, b2⟩
        · have := ih.len; omega
        · exact .inr ⟨a2, b2⟩
    have isg : ∀ (k v y : Nat), (us ++ [u])[k]? = some v → (xs ++ [x])[k]? = some y → ask nu g' v = y := by
      intro k v y h1 h2
      rcases is' k v y h1 h2 with ⟨_, a, b⟩ | ⟨rfl, rfl⟩
      · rw [akn v (hne a)]; exact ih.is k v y a b
      · exact aku
    refine ⟨by simp [ih.len], tk.st, ?_, ?_, ?_, isg, ?_, ?_, ?_⟩
    · rw [List.nodup_append]
      refine ⟨ih.nd, by simp, fun a ha c hc => ?_⟩
      simp at hc
      subst hc
      exact fun e => hu (e ▸ ha)
    · intro v hv
      rcases List.mem_append.1 hv with hv | hv
      · exact ih.was v hv
      · simp at hv; subst hv
        rw [← ih.ak v hu]; exact tk.was
    · intro v hv
      simp only [List.mem_append, List.mem_singleton, not_or] at hv
      rw [akn v hv.2]; exact ih.ak v hv.1
    · intro k v y h1 h2 i i1 i2
      rcases is' k v y h1 h2 with ⟨_, a, c⟩ | ⟨rfl, rfl⟩
      · have av : ask nu g' v = y := isg k v y h1 h2
        have hy := hxs y (List.mem_of_getElem? c)
        rw [tk.keep i (by omega)]
        · exact ih.zero k v y a c i i1 i2
        · rcases Nat.lt_or_gt_of_ne (hne a) with h | h
          · have := tk.st.inv.apartB (u := v) (v := u) (by omega) (by omega) h
            rw [av] at this; left; omega
          · have := tk.st.inv.apartB (u := u) (v := v) (by omega) (by omega) h
            rw [aku] at this; right; omega
      · exact tk.zero i i1 i2
    · intro i hi ho
      have l1 : (us ++ [u])[us.length]? = some u := by simp
      have l2 : (xs ++ [x])[us.length]? = some x := by rw [ih.len]; simp
      rw [tk.keep i hi (ho us.length u x l1 l2)]
      refine ih.keep i hi fun k v y a c => ho k v y ?_ ?_
      · rw [List.getElem?_append_left (List.getElem?_eq_some_iff.1 a).1]; exact a
      · rw [List.getElem?_append_left (List.getElem?_eq_some_iff.1 c).1]; exact c
    · intro i i1 i2
      rw [tk.root i i1 i2]; exact ih.root i i1 i2
end

section
theorem chn_len (fr : Bool) (n f : Nat) : (chn fr n f).length ≤ f := by
  induction f generalizing fr n with
  | zero => simp [chn]
  | succ f ih =>
    simp only [chn, List.length_cons]
    split
    · simp
    · have := ih false (bhN fr n); omega
theorem chn_one (fr : Bool) (n f : Nat) : 1 ≤ (chn fr n (f + 1)).length := by simp [chn]
theorem chn_le (fr : Bool) (n f : Nat) : ∀ p ∈ chn fr n f, p.n ≤ n := by
  induction f generalizing fr n with
  | zero => simp [chn]
  | succ f ih =>
    intro p hp
    simp only [chn, List.mem_cons] at hp
    rcases hp with rfl | hp
    · exact Nat.le_refl _
    · split at hp
      · simp at hp
      · have := ih false (bhN fr n) p hp; have := bh_le fr n; omega

theorem plc_cons (nu : Nat) (p : Prt) (l : List Prt) (u : Nat) (us : List Nat) : plc nu (p :: l) (u :: us) = { p with at_ := fi nu + u * 8 } :: plc nu l us := by
  simp [plc, List.mapIdx_cons]
theorem nxs_cons (p q : Prt) (l : List Prt) (m : Nat) : nxs (p :: q :: l) (m + 1) = { p with nx := q.at_ } :: nxs (q :: l) m := by
  simp only [nxs, List.mapIdx_cons, List.getElem?_cons_succ, List.getElem?_cons_zero, Nat.zero_lt_succ, if_true, Option.map_some, Option.getD_some, Nat.add_lt_add_iff_right]

/-- These pieces are as many as n bytes want. -/
def Enough : Bool → Nat → List Nat → Prop
  | _, _, [] => False
  | fr, n, _ :: us => (us = [] ∧ bhN fr n = 0) ∨ (bhN fr n ≠ 0 ∧ Enough false (bhN fr n) us)

theorem ends_of (fr : Bool) (n f : Nat) (us : List Nat) (hf : bhN fr n ≤ 504 * f) (h : us.length = (chn fr n (f + 1)).length) : Enough fr n us := by
  induction f generalizing fr n us with
  | zero =>
    have e : bhN fr n = 0 := by omega
    simp only [chn, e, if_true, List.length_cons, List.length_nil] at h
    match us, h with
    | [u], _ => exact .inl ⟨rfl, e⟩
  | succ f ih =>
    by_cases e : bhN fr n = 0
    · rw [chn, if_pos e] at h
      match us, h with
      | [u], _ => exact .inl ⟨rfl, e⟩
    · rw [chn, if_neg e] at h
      match us, h with
      | u :: us, h =>
        refine .inr ⟨e, ih false (bhN fr n) us ?_ (by simpa using h)⟩
        unfold bhN ahd at *
        simp only [Bool.false_eq_true, if_false] at *
        omega

/-- The parts that were planned, placed, each with the place of the next: the parts of a chain. -/
theorem placed_chain (nu : Nat) (fr : Bool) (n f : Nat) (us : List Nat) (hf : bhN fr n ≤ 504 * f) (h : us.length = (chn fr n (f + 1)).length) : nxs (plc nu (chn fr n (f + 1)) us) (us.length - 1) = chP nu fr n us := by
  induction f generalizing fr n us with
  | zero =>
    have e : bhN fr n = 0 := by omega
    simp only [chn, e, if_true, List.length_cons, List.length_nil] at h ⊢
    match us, h with
    | [u], _ =>
      rw [plc_cons]
      simp [plc, nxs, chP, nxq]
      omega
  | succ f ih =>
    by_cases e : bhN fr n = 0
    · rw [chn, if_pos e] at h ⊢
      match us, h with
      | [u], _ =>
        rw [plc_cons]
        simp [plc, nxs, chP, nxq]
        omega
    · rw [chn, if_neg e] at h ⊢
      match us, h with
      | u :: us, h =>
        have hl : us.length = (chn false (bhN fr n) (f + 1)).length := by simpa using h
        have h1 := chn_one false (bhN fr n) f
        have hb : bhN false (bhN fr n) ≤ 504 * f := by
          have e2 : bhN false (bhN fr n) = bhN fr n - 504 := rfl
          omega
        have ihh := ih false (bhN fr n) us hb hl
        clear ih hf hb
        obtain ⟨c, cs, hc⟩ : ∃ c cs, chn false (bhN fr n) (f + 1) = c :: cs := ⟨_, _, by rw [chn]⟩
        rw [hc] at hl h1
        cases us with
        | nil => simp at hl
        | cons v vs =>
          rw [hc] at ihh ⊢
          rw [plc_cons, plc_cons]
          rw [plc_cons] at ihh
          simp only [List.length_cons, Nat.add_sub_cancel] at ihh ⊢
          rw [nxs_cons, ihh]
          have hx := nxq_ne (nu := nu) (u := v) (us := vs)
          show _ = (⟨(fi nu + 8 * u : Nat), fr, n, (8 * nxq nu (v :: vs) : Nat)⟩ : Prt) :: chP nu false _ (v :: vs)
          rw [List.cons.injEq]
          refine ⟨?_, rfl⟩
          rw [Prt.mk.injEq]
          refine ⟨?_, rfl, rfl, ?_⟩
          · show (fi nu : Int) + u * 8 = ((fi nu + 8 * u : Nat) : Int)
            omega
          show (fi nu : Int) + v * 8 = ((8 * nxq nu (v :: vs) : Nat) : Int)
          omega
end

section
/-- All pieces are written: their first words, and the words of the bytes. -/
def Wrtn (nu : Nat) (g : Nat → Int) (wd : Nat → Nat) : Bool → Nat → Nat → List Nat → Prop
  | _, _, _, [] => True
  | fr, n, o, u :: us => g (fi nu + 8 * u) = ((wrN fr n (nxq nu us) : Nat) : Int) ∧ (∀ i, i < szN fr n - ahd fr → g (fi nu + 8 * u + ahd fr + i) = ((wd (o + i) : Nat) : Int)) ∧ Wrtn nu g wd false (bhN fr n) (o + (szN fr n - ahd fr)) us
/-- They are as long as they are to be. -/
def Asks (nu : Nat) (g : Nat → Int) : Bool → Nat → List Nat → Prop
  | _, _, [] => True
  | fr, n, u :: us => ask nu g u = szN fr n ∧ Asks nu g false (bhN fr n) us

theorem wrtn_data {nu : Nat} {g : Nat → Int} {wd : Nat → Nat} : ∀ {fr : Bool} {n o : Nat} {us : List Nat}, Wrtn nu g wd fr n o us → Data nu g wd fr o n us
  | _, _, _, [], _ => trivial
  | _, _, _, _ :: _, h => ⟨h.2.1, wrtn_data h.2.2⟩

theorem asks_of {nu : Nat} {g : Nat → Int} (fr : Bool) (n f : Nat) (us : List Nat) (h : us.length = (chn fr n f).length) (ha : ∀ (k u x : Nat), us[k]? = some u → ((chn fr n f).map fun p => szN p.fr p.n)[k]? = some x → ask nu g u = x) : Asks nu g fr n us := by
  induction f generalizing fr n us with
  | zero =>
    cases us with
    | nil => trivial
    | cons u us => simp [chn] at h
  | succ f ih =>
    cases us with
    | nil => trivial
    | cons u us =>
      refine ⟨ha 0 u (szN fr n) rfl (by simp [chn]), ?_⟩
      by_cases e : bhN fr n = 0
      · rw [chn, if_pos e] at h
        cases us with
        | nil => trivial
        | cons v vs => simp at h
      · rw [chn, if_neg e] at h
        refine ih false (bhN fr n) us (by simpa using h) fun k v x h1 h2 => ha (k + 1) v x (by simpa using h1) ?_
        rw [chn, if_neg e]
        simpa using h2

theorem chain_of {nu sz : Nat} {g : Nat → Int} {wd : Nat → Nat} (geo : Geo nu sz) (s : HpS nu g) : ∀ {fr : Bool} {n o : Nat} {us : List Nat}, n ≤ 4096 → Enough fr n us → Asks nu g fr n us → Wrtn nu g wd fr n o us → Chain nu sz g fr n us
  | _, _, _, [], _, e, _, _ => e.elim
  | fr, n, o, u :: us, n4, e, a, w => by
    obtain ⟨b1, b2, b3, b4, b5, b6⟩ := geo.b
    have hs := sz_b fr n
    have hu : ask nu g u ≠ 0 := by rw [a.1]; omega
    obtain ⟨i1, i2, i3, i4⟩ := s.inv.asks u hu
    have hl := lv_holds (ask nu g u) i2
    rw [a.1] at hl i4
    have f8 := fi_8 nu
    have hq : nxq nu us < 65536 := by
      cases us with
      | nil => simp [nxq]
      | cons v vs =>
        have hv : ask nu g v ≠ 0 := by
          rw [a.2.1]; have := sz_b false (bhN fr n); omega
        have := (s.inv.asks v hv).1
        have := (nxq_ne (nu := nu) (u := v) (us := vs)).2
        omega
    have hnx : nxq nu us = 0 ↔ bhN fr n = 0 := by
      rcases e with ⟨rfl, e⟩ | ⟨e, e2⟩
      · simp [nxq, e]
      · cases us with
        | nil => exact e2.elim
        | cons v vs =>
          have := (nxq_ne (nu := nu) (u := v) (us := vs)).1
          exact ⟨fun x => (this x).elim, fun x => (e x).elim⟩
    refine ⟨⟨w.1, n4, hq, by omega, by omega, by omega, hnx⟩, ⟨a.1, i1⟩, ?_⟩
    rcases e with ⟨rfl, e⟩ | ⟨e, e2⟩
    · exact .inl rfl
    · exact .inr (chain_of geo s (by have := bh_le fr n; omega) e2 a.2 w.2.2)

theorem rec_of {nu sz n u : Nat} {us : List Nat} {g : Nat → Int} {wd : Nat → Nat} (geo : Geo nu sz) (s : HpS nu g) (n4 : n ≤ 4096) (e : Enough true n (u :: us)) (a : Asks nu g true n (u :: us)) (w : Wrtn nu g wd true n 0 (u :: us)) (hk : g (fi nu + 8 * u + 1) = 1) (hl : us.length ≤ 15) (nd : (u :: us).Nodup) : RecS nu sz g u us n 1 wd :=
  ⟨chain_of geo s n4 e a w, hl, hk, Nat.le_refl _, by omega, wrtn_data w, nd⟩
end

section
/-- The first m pieces of vs are written; rest are left. -/
structure MkI (nu : Nat) (f2 : Nat → Int) (n : Nat) (wd : Nat → Nat) (vs : List Nat) (g : Nat → Int) (m : Nat) (fr : Bool) (n' o : Nat) (rest : List Nat) : Prop where
  sp : vs.drop m = rest
  pc : (chP nu true n vs).drop m = chP nu fr n' rest
  en : rest = [] ∨ Enough fr n' rest
  n4 : n' ≤ 4096
  ks : ∀ i, (∀ v ∈ vs.take m, i < fi nu + 8 * v ∨ fi nu + 8 * v + ask nu f2 v ≤ i) → g i = f2 i
  ct : ∀ g' : Nat → Int, (∀ v ∈ vs.take m, ∀ i, i < ask nu f2 v → g' (fi nu + 8 * v + i) = g (fi nu + 8 * v + i)) → Wrtn nu g' wd fr n' o rest → Wrtn nu g' wd true n 0 vs

theorem MkI.start {nu : Nat} {f2 : Nat → Int} {n : Nat} {wd : Nat → Nat} {vs : List Nat} (e : Enough true n vs) (n4 : n ≤ 4096) : MkI nu f2 n wd vs f2 0 true n 0 vs :=
  ⟨rfl, rfl, .inr e, n4, fun _ _ => rfl, fun _ _ h => h⟩

theorem MkI.step {nu : Nat} {f2 g g2 : Nat → Int} {n m n' o x : Nat} {fr : Bool} {wd : Nat → Nat} {vs rest : List Nat} (h : MkI nu f2 n wd vs g m fr n' o (x :: rest)) (nd : vs.Nodup)
    (ap : ∀ v ∈ vs, v ≠ x → 8 * v + ask nu f2 v ≤ 8 * x ∨ 8 * x + ask nu f2 x ≤ 8 * v) (hx : ask nu f2 x = szN fr n')
    (h1 : g2 (fi nu + 8 * x) = ((wrN fr n' (nxq nu rest) : Nat) : Int)) (h2 : ∀ i, i < szN fr n' - ahd fr → g2 (fi nu + 8 * x + ahd fr + i) = ((wd (o + i) : Nat) : Int)) (h3 : ∀ i, (i < fi nu + 8 * x ∨ fi nu + 8 * x + szN fr n' ≤ i) → g2 i = g i) :
    MkI nu f2 n wd vs g2 (m + 1) false (bhN fr n') (o + (szN fr n' - ahd fr)) rest := by
  have hm : vs[m]? = some x := by
    have : (vs.drop m)[0]? = some x := by rw [h.sp]; rfl
    rwa [List.getElem?_drop] at this
  have ht : vs.take (m + 1) = vs.take m ++ [x] := by rw [List.take_add_one, hm]; rfl
  have hne : ∀ v ∈ vs.take m, v ≠ x := fun v hv e => by
    subst e
    obtain ⟨j, hj⟩ := List.getElem?_of_mem hv
    have hjm : j < m := by
      have := (List.getElem?_eq_some_iff.1 hj).1
      simp at this; omega
    rw [List.getElem?_take, if_pos hjm] at hj
    have := (List.getElem?_inj (List.getElem?_eq_some_iff.1 hj).1 nd).1 (hj.trans hm.symm)
    omega
  have hs := sz_b fr n'
  refine ⟨?_, ?_, ?_, ?_, ?_, ?_⟩
  · rw [← List.drop_drop, h.sp]; rfl
  · rw [← List.drop_drop, h.pc]; rfl
  · rcases h.en with e | e
    · cases e
    · rcases e with ⟨e, _⟩ | ⟨_, e⟩
      · exact .inl e
      · exact .inr e
  · have := bh_le fr n'; have := h.n4; omega
  · intro i hi
    rw [ht] at hi
    rw [h3 i (by have := hi x (by simp); rw [hx] at this; exact this)]
    exact h.ks i fun v hv => hi v (by simp [hv])
  · intro g' hg hw
    rw [ht] at hg
    refine h.ct g' (fun v hv i hi => ?_) ⟨?_, fun i hi => ?_, hw⟩
    · rw [hg v (by simp [hv]) i hi]
      refine h3 _ ?_
      have := ap v (List.mem_of_mem_take hv) (hne v hv)
      rw [hx] at this
      omega
    · have := hg x (by simp) 0 (by rw [hx]; omega)
      rw [Nat.add_zero] at this
      rw [this, h1]
    · have := hg x (by simp) (ahd fr + i) (by rw [hx]; omega)
      rw [← Nat.add_assoc] at this
      rw [this]; exact h2 i hi

theorem Wrtn.held {nu : Nat} {g : Nat → Int} {wd : Nat → Nat} {j : Nat} {v : Int} : ∀ {fr : Bool} {n o : Nat} {us : List Nat}, Wrtn nu g wd fr n o us → Asks nu g fr n us → (∀ u ∈ us, j < fi nu + 8 * u ∨ fi nu + 8 * u + ask nu g u ≤ j) → Wrtn nu (upd g j v) wd fr n o us
  | _, _, _, [], _, _, _ => trivial
  | fr, n, o, u :: us, h, a, hj => by
    have hs := sz_b fr n
    have hu := hj u (by simp)
    rw [a.1] at hu
    refine ⟨?_, fun i hi => ?_, Wrtn.held h.2.2 a.2 (fun x hx => hj x (by simp [hx]))⟩
    · rw [upd_other _ _ (by omega)]; exact h.1
    · rw [upd_other _ _ (by omega)]; exact h.2.1 i hi
theorem Wrtn.first {nu : Nat} {g : Nat → Int} {wd : Nat → Nat} {v : Int} {n o u : Nat} {us : List Nat} (h : Wrtn nu g wd true n o (u :: us)) (a : Asks nu g true n (u :: us)) (hj : ∀ x ∈ us, fi nu + 8 * u + 1 < fi nu + 8 * x ∨ fi nu + 8 * x + ask nu g x ≤ fi nu + 8 * u + 1) : Wrtn nu (upd g (fi nu + 8 * u + 1) v) wd true n o (u :: us) := by
  refine ⟨?_, fun i hi => ?_, Wrtn.held h.2.2 a.2 hj⟩
  · rw [upd_other _ _ (by omega)]; exact h.1
  · rw [upd_other _ _ (by unfold ahd; simp; omega)]; exact h.2.1 i hi
end

section
theorem Takn.few {nu : Nat} {f g : Nat → Int} {us xs : List Nat} (t : Takn nu f us xs g) (hx : ∀ x ∈ xs, 1 ≤ x ∧ x ≤ 64) (h0 : ∀ u, ask nu f u ≤ 64) : (∀ u, ask nu g u ≤ 64) ∧ cnt nu (ask nu g) ≤ cnt nu (ask nu f) + us.length := by
  induction t using Takn.ind with
  | nil => exact ⟨h0, by simp⟩
  | snoc us xs g g' u x t tk ih =>
    obtain ⟨i1, i2⟩ := ih (fun y hy => hx y (by simp [hy]))
    have hx1 := hx x (by simp)
    obtain ⟨c, hc, hc2⟩ := tk.blk
    have hu : u < nu := by
      have := block_lt hc2
      have := two_pos (lv x)
      rw [hc]; omega
    refine ⟨fun v => ?_, ?_⟩
    · rw [tk.ak]
      unfold setK
      split
      · exact hx1.2
      · exact i1 v
    · have := cnt_set (K := ask nu g) hu x
      rw [tk.was, if_pos rfl, if_neg (by omega), ← tk.ak] at this
      rw [List.length_append, List.length_singleton]
      omega

/-- Among few pieces, all of 64 words at most, one more has room. -/
theorem Takn.room {nu : Nat} {f g : Nat → Int} {us xs : List Nat} (s : HpS nu f) (t : Takn nu f us xs g) (hx : ∀ x ∈ xs, 1 ≤ x ∧ x ≤ 64) (h0 : ∀ u, ask nu f u ≤ 64) (hc : cnt nu (ask nu f) + us.length < nu / 8) : ∃ j c, 3 ≤ j ∧ j < 7 ∧ fre nu g j c = true := by
  obtain ⟨i1, i2⟩ := t.few hx h0
  have sg := (t.facts s (fun x hx' => (hx x hx').1)).st
  refine Classical.byContradiction fun hno => ?_
  refine sg.inv.roomy (m := 3) (k := 3) (by omega) (Nat.le_refl _) (fun u _ => lv3 (i1 u)) (by show cnt nu (ask nu g) < nu / 8; omega) fun j j1 j2 c => ?_
  cases e : fre nu g j c with
  | false => rfl
  | true => exact (hno ⟨j, c, j1, j2, e⟩).elim
end
end Go.Proofs.YtdgobaknbjlahaaGreatDoor
