/- Joined: Rs Rx Ry Rz. -/
import Derived.Test.YtdgobaknbjlahaaGreatDoorXTk
import Derived.Test.YtdgobaknbjlahaaGreatDoorXRh
import Derived.Test.YtdgobaknbjlahaaGreatDoorGHs
import Derived.Test.YtdgobaknbjlahaaGreatDoorGLq
import Derived.Deep.RegionLaw
import Derived.Laws.AppendOwnNone
import Derived.Test.YtdgobaknbjlahaaGreatDoorXPa
namespace Go.Proofs.YtdgobaknbjlahaaGreatDoor
open Go.RowKit

section
/-- A record: its pieces, how many bytes, how often it is held, its bytes. -/
structure Rc where
  u : Nat
  us : List Nat
  n : Nat
  k : Nat
  bt : Nat → Nat
def Rc.all (r : Rc) : List Nat := r.u :: r.us
def allU (rs : List Rc) : List Nat := rs.flatMap Rc.all

/-- The heap's pieces are those of the records. -/
structure Recs (nu sz : Nat) (f : Nat → Int) (rs : List Rc) : Prop where
  st : HpS nu f
  rc : ∀ r ∈ rs, RecS nu sz f r.u r.us r.n r.k (wordN r.bt r.n) ∧ ∀ i, i < r.n → r.bt i < 256
  nd : (allU rs).Nodup
  cv : ∀ v, ask nu f v ≠ 0 ↔ v ∈ allU rs

/-- What lies in a piece stays, and how long it is. -/
def Sam (nu : Nat) (f g : Nat → Int) (v : Nat) : Prop := ask nu g v = ask nu f v ∧ ∀ i, i < ask nu f v → g (fi nu + 8 * v + i) = f (fi nu + 8 * v + i)

theorem chain_same {nu sz : Nat} {f g : Nat → Int} : ∀ {fr : Bool} {n : Nat} {us : List Nat}, Chain nu sz f fr n us → (∀ v ∈ us, Sam nu f g v) → Chain nu sz g fr n us
  | _, _, [], h, _ => h.elim
  | fr, n, u :: us, h, hs => by
    obtain ⟨pa, tk, h2⟩ := h
    obtain ⟨s1, s2⟩ := hs u (by simp)
    have hz := sz_b fr n
    have e0 := s2 0 (by rw [tk.1]; omega)
    rw [Nat.add_zero] at e0
    refine ⟨⟨by rw [e0]; exact pa.w, pa.n4, pa.q6, pa.lo, pa.m8, pa.hi, pa.nx⟩, ⟨by rw [s1]; exact tk.1, tk.2⟩, ?_⟩
    rcases h2 with e | h2
    · exact .inl e
    · exact .inr (chain_same h2 (fun v hv => hs v (by simp [hv])))
theorem data_same {nu sz : Nat} {f g : Nat → Int} {wd : Nat → Nat} : ∀ {fr : Bool} {o n : Nat} {us : List Nat}, Chain nu sz f fr n us → Data nu f wd fr o n us → (∀ v ∈ us, Sam nu f g v) → Data nu g wd fr o n us
  | _, _, _, [], h, _, _ => h.elim
  | fr, o, n, u :: us, h, d, hs => by
    obtain ⟨pa, tk, h2⟩ := h
    obtain ⟨s1, s2⟩ := hs u (by simp)
    refine ⟨fun i hi => ?_, ?_⟩
    · have := s2 (ahd fr + i) (by rw [tk.1]; omega)
      rw [← Nat.add_assoc] at this
      rw [this]; exact d.1 i hi
    · rcases h2 with e | h2
      · subst e; trivial
      · exact data_same h2 d.2 (fun v hv => hs v (by simp [hv]))
theorem szt (n : Nat) : 2 ≤ szN true n := by unfold szN ahd; simp; omega

theorem RecS.same {nu sz : Nat} {f g : Nat → Int} {u n k : Nat} {us : List Nat} {wd : Nat → Nat} (r : RecS nu sz f u us n k wd) (hs : ∀ v ∈ u :: us, Sam nu f g v) : RecS nu sz g u us n k wd :=
  ⟨chain_same r.ch hs, r.len, by rw [(hs u (by simp)).2 1 (by rw [r.ch.2.1.1]; have := szt n; omega)]; exact r.hk, r.k1, r.k2, data_same r.ch r.da hs, r.nd⟩

/-- Pieces lie apart. -/
theorem HpS.apart {nu : Nat} {f : Nat → Int} (s : HpS nu f) {u v : Nat} (hu : ask nu f u ≠ 0) (hv : ask nu f v ≠ 0) (hne : u ≠ v) : fi nu + 8 * u + ask nu f u ≤ fi nu + 8 * v ∨ fi nu + 8 * v + ask nu f v ≤ fi nu + 8 * u := by
  rcases Nat.lt_or_gt_of_ne hne with h | h
  · have h1 := s.inv.apartB hu hv h
    have h2 := lv_holds (ask nu f u) (s.inv.asks u hu).2.1
    left; omega
  · have h1 := s.inv.apartB hv hu h
    have h2 := lv_holds (ask nu f v) (s.inv.asks v hv).2.1
    right; omega

theorem chain_ask {nu sz : Nat} {f : Nat → Int} : ∀ {fr : Bool} {n : Nat} {us : List Nat}, Chain nu sz f fr n us → ∀ v ∈ us, ask nu f v ≠ 0
  | _, _, [], h, _, _ => h.elim
  | fr, n, u :: us, h, v, hv => by
    obtain ⟨pa, tk, h2⟩ := h
    rcases List.mem_cons.1 hv with e | hv
    · subst e; rw [tk.1]; have := sz_b fr n; omega
    · rcases h2 with e | h2
      · subst e; cases hv
      · exact chain_ask h2 v hv

/-- It is held so often now. -/
theorem RecS.setk {nu sz : Nat} {f : Nat → Int} {u n k : Nat} {us : List Nat} {wd : Nat → Nat} (r : RecS nu sz f u us n k wd) (s : HpS nu f) (k' : Nat) (h1 : 1 ≤ k') (h2 : k' < 1000000) : RecS nu sz (upd f (fi nu + 8 * u + 1) (k' : Nat)) u us n k' wd := by
  have own : ∀ i, i < fi nu → upd f (fi nu + 8 * u + 1) (k' : Nat) i = f i := fun i hi => upd_other _ _ (by omega)
  have ea := ask_own own
  have hz := szt n
  obtain ⟨pa, tk, h3⟩ := r.ch
  have hu : ask nu f u ≠ 0 := by rw [tk.1]; omega
  have sm : ∀ v ∈ us, Sam nu f (upd f (fi nu + 8 * u + 1) (k' : Nat)) v := fun v hv => by
    have hv0 : ask nu f v ≠ 0 := chain_ask r.ch v (by simp [hv])
    have hne : u ≠ v := fun e => (List.nodup_cons.1 r.nd).1 (e ▸ hv)
    refine ⟨by rw [ea], fun i hi => upd_other _ _ ?_⟩
    have := s.apart hu hv0 hne
    rw [tk.1] at this
    omega
  have ch : Chain nu sz (upd f (fi nu + 8 * u + 1) (k' : Nat)) true n (u :: us) := by
    refine ⟨⟨by rw [upd_other _ _ (by omega)]; exact pa.w, pa.n4, pa.q6, pa.lo, pa.m8, pa.hi, pa.nx⟩, ⟨by rw [ea]; exact tk.1, tk.2⟩, ?_⟩
    rcases h3 with e | h3
    · exact .inl e
    · exact .inr (chain_same h3 sm)
  refine ⟨ch, r.len, upd_same _ _ _, h1, h2, ⟨fun i hi => ?_, ?_⟩, r.nd⟩
  · rw [upd_other _ _ (by unfold ahd; simp; omega)]; exact r.da.1 i hi
  · rcases h3 with e | h3
    · subst e; trivial
    · exact data_same h3 r.da.2 sm

theorem allU_app (a c : List Rc) : allU (a ++ c) = allU a ++ allU c := by simp [allU]
theorem allU_cons (r : Rc) (c : List Rc) : allU (r :: c) = r.all ++ allU c := by simp [allU]
theorem split_at {rs : List Rc} {j : Nat} {r : Rc} (h : rs[j]? = some r) : ∃ l1 l2, rs = l1 ++ r :: l2 ∧ l1.length = j := by
  have hl := (List.getElem?_eq_some_iff.1 h).1
  refine ⟨rs.take j, rs.drop (j + 1), ?_, by rw [List.length_take]; omega⟩
  have e : rs.drop j = r :: rs.drop (j + 1) := by
    rw [List.drop_eq_getElem_cons hl]
    congr 1
    exact (List.getElem?_eq_some_iff.1 h).2
  rw [← e, List.take_append_drop]

theorem Recs.nil {nu sz : Nat} {f : Nat → Int} (s : HpS nu f) (e : ask nu f = fun _ => 0) : Recs nu sz f [] := ⟨s, by simp, by simp [allU], fun v => by rw [e]; simp [allU]⟩

theorem Recs.made {nu sz : Nat} {f g : Nat → Int} {rs : List Rc} {u n : Nat} {us : List Nat} {bt : Nat → Nat} (R : Recs nu sz f rs) (m : Mde nu f (u :: us) g) (r : RecS nu sz g u us n 1 (wordN bt n)) (hb : ∀ i, i < n → bt i < 256) : Recs nu sz g (rs ++ [⟨u, us, n, 1, bt⟩]) := by
  obtain ⟨xs, f2, t, e, hx, kp⟩ := m.tk
  have new0 : ∀ v ∈ u :: us, ask nu f2 v ≠ 0 := fun v hv => by
    obtain ⟨k, hk⟩ := List.getElem?_of_mem hv
    obtain ⟨x, hxk⟩ : ∃ x, xs[k]? = some x := ⟨_, List.getElem?_eq_getElem (l := xs) (i := k) (by rw [← t.len]; exact (List.getElem?_eq_some_iff.1 hk).1)⟩
    rw [t.is k v x hk hxk]
    have := hx x (List.mem_of_getElem? hxk)
    omega
  have sm : ∀ v, v ∉ u :: us → ask nu f v ≠ 0 → Sam nu f g v := fun v hn h0 => by
    have ea : ask nu f2 v = ask nu f v := t.ak v hn
    have h02 : ask nu f2 v ≠ 0 := by rw [ea]; exact h0
    refine ⟨by rw [e]; exact ea, fun i hi => ?_⟩
    rw [kp _ (fun v' hv' => ?_)]
    · refine t.keep _ (by omega) fun k u' x hk hxk => ?_
      have hu' := List.mem_of_getElem? hk
      have ex := t.is k u' x hk hxk
      have hne : v ≠ u' := fun e => hn (e ▸ hu')
      rcases Nat.lt_or_gt_of_ne hne with h | h
      · have h1 := t.st.inv.apartB h02 (new0 u' hu') h
        have h2 := lv_holds (ask nu f2 v) (t.st.inv.asks v h02).2.1
        rw [ea] at h1 h2
        left; omega
      · have h1 := t.st.inv.apartB (new0 u' hu') h02 h
        rw [ex] at h1
        right; omega
    · have hne : v ≠ v' := fun e => hn (e ▸ hv')
      have := t.st.apart h02 (new0 v' hv') hne
      rw [ea] at this
      omega
  have old : ∀ v ∈ allU rs, v ∉ u :: us ∧ ask nu f v ≠ 0 := fun v hv => by
    have h0 := (R.cv v).2 hv
    exact ⟨fun h => h0 (t.was v h), h0⟩
  refine ⟨m.st, fun r' hr' => ?_, ?_, fun v => ?_⟩
  · rcases List.mem_append.1 hr' with h | h
    · refine ⟨(R.rc r' h).1.same fun v hv => ?_, (R.rc r' h).2⟩
      have := old v (by unfold allU; exact List.mem_flatMap.2 ⟨r', h, hv⟩)
      exact sm v this.1 this.2
    · simp at h; subst h; exact ⟨r, hb⟩
  · rw [allU_app, List.nodup_append]
    refine ⟨R.nd, by simpa [allU, Rc.all] using t.nd, fun a ha c hc => ?_⟩
    have hc' : c ∈ u :: us := by simpa [allU, Rc.all] using hc
    exact fun e => (old a ha).1 (e ▸ hc')
  · rw [allU_app, List.mem_append]
    have hm : v ∈ allU [(⟨u, us, n, 1, bt⟩ : Rc)] ↔ v ∈ u :: us := by simp [allU, Rc.all]
    rw [hm, e]
    by_cases h : v ∈ u :: us
    · exact ⟨fun _ => .inr h, fun _ => new0 v h⟩
    · rw [t.ak v h, R.cv v]
      exact ⟨.inl, fun x => x.elim id (fun y => absurd y h)⟩

theorem Recs.setk {nu sz : Nat} {f : Nat → Int} {rs : List Rc} {j : Nat} {r : Rc} (R : Recs nu sz f rs) (h : rs[j]? = some r) (k' : Nat) (h1 : 1 ≤ k') (h2 : k' < 1000000) : Recs nu sz (upd f (fi nu + 8 * r.u + 1) (k' : Nat)) (rs.set j { r with k := k' }) := by
  obtain ⟨l1, l2, rfl, hl⟩ := split_at h
  have own : ∀ i, i < fi nu → upd f (fi nu + 8 * r.u + 1) (k' : Nat) i = f i := fun i hi => upd_other _ _ (by omega)
  have ea := ask_own own
  have hr := R.rc r (by simp)
  have hu : ask nu f r.u ≠ 0 := (R.cv r.u).2 (by simp [allU_app, allU_cons, Rc.all])
  have es : (l1 ++ r :: l2).set j { r with k := k' } = l1 ++ { r with k := k' } :: l2 := by
    rw [← hl, List.set_append_right _ _ (Nat.le_refl _)]; simp
  have eU : allU (l1 ++ { r with k := k' } :: l2) = allU (l1 ++ r :: l2) := by simp [allU_app, allU_cons, Rc.all]
  have hz := szt r.n
  rw [es]
  refine ⟨R.st.own own, fun r' hr' => ?_, by rw [eU]; exact R.nd, fun v => by rw [eU, ea]; exact R.cv v⟩
  have other : ∀ r' ∈ l1 ++ l2, (∀ v ∈ r'.all, v ∉ r.all) → RecS nu sz (upd f (fi nu + 8 * r.u + 1) (k' : Nat)) r'.u r'.us r'.n r'.k (wordN r'.bt r'.n) ∧ ∀ i, i < r'.n → r'.bt i < 256 := fun r' hm hd => by
    have hm' : r' ∈ l1 ++ r :: l2 := by simp at hm ⊢; rcases hm with h | h; exact .inl h; exact .inr (.inr h)
    obtain ⟨q1, q2⟩ := R.rc r' hm'
    refine ⟨q1.same fun v hv => ⟨by rw [ea], fun i hi => upd_other _ _ ?_⟩, q2⟩
    have hv0 : ask nu f v ≠ 0 := (R.cv v).2 (by unfold allU; exact List.mem_flatMap.2 ⟨r', hm', hv⟩)
    have hne : r.u ≠ v := fun e => hd v hv (by simp [Rc.all, ← e])
    have := R.st.apart hu hv0 hne
    rw [hr.1.ch.2.1.1] at this
    omega
  have nd := R.nd
  rw [allU_app, allU_cons, List.nodup_append, List.nodup_append] at nd
  rcases List.mem_append.1 hr' with h | h
  · exact other r' (by simp [h]) fun v hv hv' => nd.2.2 v (by unfold allU; exact List.mem_flatMap.2 ⟨r', h, hv⟩) v (by simp [hv']) rfl
  · rcases List.mem_cons.1 h with h | h
    · subst h; exact ⟨hr.1.setk R.st k' h1 h2, hr.2⟩
    · exact other r' (by simp [h]) fun v hv hv' => nd.2.1.2.2 v hv' v (by unfold allU; exact List.mem_flatMap.2 ⟨r', h, hv⟩) rfl

theorem Recs.gone {nu sz : Nat} {f g : Nat → Int} {rs : List Rc} {j : Nat} {r : Rc} (R : Recs nu sz f rs) (h : rs[j]? = some r) (d : Dropped nu f r.u r.us g) : Recs nu sz g (rs.eraseIdx j) := by
  obtain ⟨l1, l2, rfl, hl⟩ := split_at h
  have hr := R.rc r (by simp)
  have hu : ask nu f r.u ≠ 0 := (R.cv r.u).2 (by simp [allU_app, allU_cons, Rc.all])
  have es : (l1 ++ r :: l2).eraseIdx j = l1 ++ l2 := by
    rw [← hl, List.eraseIdx_append_of_length_le (Nat.le_refl _)]; simp
  have nd := R.nd
  rw [allU_app, allU_cons, List.nodup_append, List.nodup_append] at nd
  have dis : ∀ v ∈ allU (l1 ++ l2), v ∉ r.all := fun v hv hv' => by
    rw [allU_app] at hv
    rcases List.mem_append.1 hv with h | h
    · exact nd.2.2 v h v (by simp [hv']) rfl
    · exact nd.2.1.2.2 v hv' v h rfl
  have ak : ∀ v, v ∉ r.all → ask nu g v = ask nu f v := fun v hv => by rw [d.ak]; exact if_neg hv
  have ak0 : ∀ v, v ∈ r.all → ask nu g v = 0 := fun v hv => by rw [d.ak]; exact if_pos hv
  rw [es]
  refine ⟨d.st, fun r' hr' => ?_, ?_, fun v => ?_⟩
  · have hm' : r' ∈ l1 ++ r :: l2 := by simp at hr' ⊢; rcases hr' with h | h; exact .inl h; exact .inr (.inr h)
    obtain ⟨q1, q2⟩ := R.rc r' hm'
    refine ⟨q1.same fun v hv => ?_, q2⟩
    have hvn := dis v (by unfold allU; exact List.mem_flatMap.2 ⟨r', hr', hv⟩)
    refine ⟨ak v hvn, fun i hi => d.keep _ (by omega) ?_⟩
    have hv0 : ask nu f v ≠ 0 := (R.cv v).2 (by unfold allU; exact List.mem_flatMap.2 ⟨r', hm', hv⟩)
    have hne : r.u ≠ v := fun e => hvn (by simp [Rc.all, ← e])
    have := R.st.apart hu hv0 hne
    have := szt r.n
    have := hr.1.ch.2.1.1
    omega
  · rw [allU_app, List.nodup_append]
    exact ⟨nd.1, nd.2.1.2.1, fun a ha c hc => nd.2.2 a ha c (by simp [hc])⟩
  · by_cases hv : v ∈ r.all
    · rw [ak0 v hv]
      exact ⟨fun x => absurd rfl x, fun x => absurd hv (dis v x)⟩
    · rw [ak v hv, R.cv v]
      simp only [allU_app, allU_cons, List.mem_append]
      exact ⟨fun x => by rcases x with x | x | x; exact .inl x; exact absurd x hv; exact .inr x, fun x => x.elim .inl (fun y => .inr (.inr y))⟩

theorem Recs.cnt {nu sz : Nat} {f : Nat → Int} {rs : List Rc} (R : Recs nu sz f rs) : cnt nu (ask nu f) = (allU rs).length := by
  have h1 : (plU (ask nu f) nu).Nodup := (plU_rise nu).imp (fun h e => by omega)
  have h2 : (plU (ask nu f) nu).Perm (allU rs) := (List.perm_ext_iff_of_nodup h1 R.nd).2 fun v => by
    rw [plU_mem, ← R.cv v]
    exact ⟨fun x => x.2, fun x => ⟨(R.st.inv.asks v x).1, x⟩⟩
  rw [← h2.length_eq, plU_len]; rfl
end

section
theorem add_none (xb xo k : Nat) : (⟨xb, xo, none⟩ : Addr).add k = ⟨xb, xo + k, none⟩ := by unfold Addr.add; split <;> simp_all
/-- The cells of records. -/
def rcells (nu : Nat) : List Rc → List Value
  | [] => []
  | r :: rs => .int .i64 (fi nu + 8 * r.u : Nat) :: .int .i64 (r.k : Nat) :: .string (strB r.bt r.n) :: rcells nu rs
section
variable {nu : Nat}
theorem rcells_at {rs : List Rc} : ∀ {k : Nat} {r : Rc}, rs[k]? = some r → (rcells nu rs)[k * 3]? = some (.int .i64 (fi nu + 8 * r.u : Nat)) ∧ (rcells nu rs)[k * 3 + 1]? = some (.int .i64 (r.k : Nat)) ∧ (rcells nu rs)[k * 3 + 2]? = some (.string (strB r.bt r.n)) := by
  induction rs with
  | nil => intro k y h; simp at h
  | cons z ls ih =>
    intro k y h
    cases k with
    | zero => simp at h; subst h; simp [rcells]
    | succ k =>
      have := ih (by simpa using h)
      rw [show (k + 1) * 3 = k * 3 + 3 by omega]
      simpa [rcells] using this
theorem rcells_app (a b : List Rc) : rcells nu (a ++ b) = rcells nu a ++ rcells nu b := by
  induction a with
  | nil => rfl
  | cons z a ih => simp [rcells, ih]
theorem rcells_len (a : List Rc) : (rcells nu a).length = 3 * a.length := by
  induction a with
  | nil => rfl
  | cons z a ih => simp [rcells, ih]; omega
theorem rcells_set {rs : List Rc} : ∀ {k : Nat} {r : Rc} (h : Nat), rs[k]? = some r → (rcells nu rs).set (k * 3 + 1) (.int .i64 (h : Nat)) = rcells nu (rs.set k { r with k := h }) := by
  induction rs with
  | nil => intro k y h e; simp at e
  | cons z ls ih =>
    intro k y h e
    cases k with
    | zero => simp at e; subst e; simp [rcells]
    | succ k =>
      have := ih (k := k) (r := y) h (by simpa using e)
      rw [show (k + 1) * 3 + 1 = k * 3 + 1 + 1 + 1 + 1 by omega]
      simp [rcells, this]
theorem rcells_get : ∀ {ls : List Rc} {j : Nat} {u : Value}, (rcells nu ls)[j]? = some u → ∃ k r, ls[k]? = some r ∧ ((j = k * 3 ∧ u = .int .i64 (fi nu + 8 * r.u : Nat)) ∨ (j = k * 3 + 1 ∧ u = .int .i64 (r.k : Nat)) ∨ (j = k * 3 + 2 ∧ u = .string (strB r.bt r.n))) := by
  intro ls
  induction ls with
  | nil => intro j u h; simp [rcells] at h
  | cons z ls ih =>
    intro j u h
    match j, h with
    | 0, h => simp [rcells] at h; exact ⟨0, z, rfl, .inl ⟨rfl, by rw [← h]; simp⟩⟩
    | 1, h => simp [rcells] at h; exact ⟨0, z, rfl, .inr (.inl ⟨rfl, h.symm⟩)⟩
    | 2, h => simp [rcells] at h; exact ⟨0, z, rfl, .inr (.inr ⟨rfl, h.symm⟩)⟩
    | j + 3, h =>
      simp [rcells] at h
      obtain ⟨k, y, hy, e⟩ := ih h
      refine ⟨k + 1, y, by simpa using hy, ?_⟩
      rcases e with ⟨rfl, e⟩ | ⟨rfl, e⟩ | ⟨rfl, e⟩
      · exact .inl ⟨by omega, e⟩
      · exact .inr (.inl ⟨by omega, e⟩)
      · exact .inr (.inr ⟨by omega, e⟩)
theorem rcells_one {ls : List Rc} : ∀ u ∈ rcells nu ls, u.oneCell' = true := by
  induction ls with
  | nil => intro u h; simp [rcells] at h
  | cons z ls ih =>
    intro u h
    simp [rcells] at h
    rcases h with rfl | rfl | rfl | h
    · rfl
    · rfl
    · rfl
    · exact ih u h

/-- A row of records that is read. -/
def RcsAt (nu : Nat) (w : World) (a : Option Addr) (rs : List Rc) : Prop :=
  ∀ k r, rs[k]? = some r → ∃ xb xo, a = some ⟨xb, xo, none⟩ ∧ w.cell? ⟨xb, xo + k * 3, none⟩ = some (.int .i64 (fi nu + 8 * r.u : Nat)) ∧ w.cell? ⟨xb, xo + k * 3 + 1, none⟩ = some (.int .i64 (r.k : Nat)) ∧ w.cell? ⟨xb, xo + k * 3 + 2, none⟩ = some (.string (strB r.bt r.n))
theorem RcsAt.fr {w w' : World} {a : Option Addr} {rs : List Rc} (h : RcsAt nu w a rs) {F : Nat → Prop} (f : Fr F w w') (hn : ∀ x, a = some x → ¬ F x.block) : RcsAt nu w' a rs := fun k y hy => by
  obtain ⟨xb, xo, e, h1, h2, h3⟩ := h k y hy
  have n := hn ⟨xb, xo, none⟩ e
  exact ⟨xb, xo, e, f.cell' h1 n, f.cell' h2 n, f.cell' h3 n⟩
theorem RcsAt.kept {w w' : World} {a : Option Addr} {rs : List Rc} (h : RcsAt nu w a rs) (f : Still w w') : RcsAt nu w' a rs := h.fr f (fun _ _ x => x)
theorem rcs_of_row {w : World} {lo cp : Nat} {ad : Option Addr} {rs : List Rc} (h : w.ownsRow lo 38 3 (.slice ad rs.length cp) rs.length (rcells nu rs)) : RcsAt nu w ad rs := fun k r hr => by
  have hl := (List.getElem?_eq_some_iff.1 hr).1
  rcases h.2 with ⟨_, e0⟩ | ⟨g, cap, cur, ev, _⟩
  · omega
  · injection ev with e1 e2 e3
    subst e1
    obtain ⟨p0, p1, p2⟩ := rcells_at (nu := nu) hr
    have ln := rcells_len (nu := nu) rs
    refine ⟨g, 0, rfl, ?_, ?_, ?_⟩
    · rw [Nat.zero_add, h.cellAt (k * 3) (by omega)]; exact p0
    · rw [Nat.zero_add, h.cellAt (k * 3 + 1) (by omega)]; exact p1
    · rw [Nat.zero_add, h.cellAt (k * 3 + 2) (by omega)]; exact p2
theorem rcs_cells {w : World} {ad : Addr} {ls : List Rc} (h : RcsAt nu w (some ad) ls) : ∀ j u, (rcells nu ls)[j]? = some u → w.cell? (ad.add j) = some u := by
  intro j u hu
  obtain ⟨k, y, hy, e⟩ := rcells_get hu
  obtain ⟨xb, xo, e1, c1, c2, c3⟩ := h k y hy
  cases e1
  rcases e with ⟨rfl, rfl⟩ | ⟨rfl, rfl⟩ | ⟨rfl, rfl⟩
  · rw [add_none]; exact c1
  · rw [add_none, ← Nat.add_assoc]; exact c2
  · rw [add_none, ← Nat.add_assoc]; exact c3
theorem info_record : (Tryz.prog.info? 38).map (fun i => (i.zero, i.size, i.bytes)) = some (some (.agg #[.int .i64 0, .int .i64 0, .string ⟨#[]⟩]), 3, 32) := by kernel_rfl
theorem info_recE : ∃ i, Tryz.prog.info? 38 = some i ∧ i.zero = some (.agg #[.int .i64 0, .int .i64 0, .string ⟨#[]⟩]) ∧ i.size = 3 ∧ i.bytes = 32 := by
  have hi := info_record
  cases h : Tryz.prog.info? 38 with
  | none => rw [h] at hi; simp at hi
  | some i => rw [h] at hi; simp only [Option.map_some, Option.some.injEq, Prod.mk.injEq] at hi; exact ⟨i, rfl, hi⟩

/-- What an append of records leaves. -/
structure MoreR (nu : Nat) (w : World) (lo : Nat) (v v' : Value) (l : List Rc) (w' : World) : Prop where
  own : w'.ownsRow lo 38 3 v' l.length (rcells nu l)
  gr : w.grownBy w' v.ownBlock
  loc : v'.ownBlock = v.ownBlock ∨ v'.ownBlock = some w.heap.size

/-- The run of an append of records to a row of one's own. -/
theorem run_recs (w : World) (lo : Nat) (ty : TypeId) (v : Value) (l ls : List Rc) (hown : w.ownsRow lo 38 3 v l.length (rcells nu l)) (xa : Option Addr) (xc : Nat) (hx : xa = none → ls = [] ∧ xc = 0) (hp : RcsAt nu w xa ls) (hl : l.length + ls.length ≤ 1000) (hlo : lo ≤ w.heap.size) :
    ∃ v' w', (Builtin.append_ #[29, 29] ty #[v, .slice xa ls.length xc]).run Tryz.prog w = .ok v' w' ∧ MoreR nu w lo v v' (l ++ ls) w' := by
  obtain ⟨i, hi, hz, hsize, hby⟩ := info_recE
  cases xa with
  | none =>
    obtain ⟨rfl, rfl⟩ := hx rfl
    refine ⟨v, w, run_append_owned_none (P := Tryz.prog) (w := w) lo 29 ty 38 i 3 Tryz.underlying29 hi v _ _ hown, by simpa using hown, ⟨rfl, rfl, rfl, Nat.le_refl _, fun _ _ _ => rfl⟩, .inl rfl⟩
  | some ad =>
    obtain ⟨v', w', hr, h2, h3, _, h5⟩ := run_append_own_at (P := Tryz.prog) w lo 29 ty 38 i (.agg #[.int .i64 0, .int .i64 0, .string ⟨#[]⟩]) 3 32 Tryz.underlying29 hi hz hsize hby rfl (by decide) v l.length (rcells nu l) hown ad ls.length xc (rcells nu ls) (by rw [rcells_len]; omega) (rcs_cells hp) rcells_one (by unfold maxLen; omega) (by omega) hlo
    exact ⟨v', w', hr, by rw [List.length_append, rcells_app]; exact h2, h3, h5⟩
theorem step_append_run {P : Program} {ops : Array Oper} {o : Oper} {a : Act} {w : World} {K : Act → World → Prop} {Q : Exit → Act → World → Prop} {E : Prop} (hgd : o.guard = none) (s x : Operand) (t : TypeId)
    (ho : o.op = .call { callee := .builtin .append, args := #[s, x], argTypes := #[t, t] }) (vs vx : Value) (hs : a.eval s = vs) (hx : a.eval x = vx) (v' : Value) (w' : World) (hr : (Builtin.append_ #[t, t] o.type #[vs, vx]).run P w = .ok v' w')
    (h : K (a.put o.dst v') w') : if Region.wanted o (yielded ops a.tmps) = true then Oper.wp P o a w K Q else E := by
  rw [if_pos (by simp [Region.wanted, hgd])]
  unfold Oper.wp execOp
  simp only [ho, resolve, invoke, builtin, Sem.run_bind, Sem.run_pure, Result.andThen_ok, List.map_toArray, List.map_cons, List.map_nil, hs, hx, hr]
  exact h
/-- One record is held so often now. -/
theorem rrow_set {w : World} {lo g n cap k : Nat} {rs : List Rc} {r : Rc} (h : w.ownsRow lo 38 3 (.slice (some ⟨g, 0, none⟩) n cap) rs.length (rcells nu rs)) (hr : rs[k]? = some r) (x : Nat) :
    (w.setCell ⟨g, k * 3 + 1, none⟩ (.int .i64 (x : Nat))).ownsRow lo 38 3 (.slice (some ⟨g, 0, none⟩) n cap) (rs.set k { r with k := x }).length (rcells nu (rs.set k { r with k := x })) := by
  have hl : (rs.set k { r with k := x }).length = rs.length := by simp
  refine ⟨by rw [rcells_len]; omega, ?_⟩
  rcases h.2 with ⟨hv, hn⟩ | ⟨g', cap', cur, hv, hb, hg, hc, hm, hs, hcur⟩
  · cases hv
  · injection hv with hv1 hv2 hv3
    injection hv1 with hv1
    injection hv1 with hv1
    subst hv1; subst hv2; subst hv3
    refine .inr ⟨g, cap, cur.setIfInBounds (k * 3 + 1) (.int .i64 (x : Nat)), by rw [hl], hb, ?_, by rw [hl]; exact hc, hm, by simpa using hs, ?_⟩
    · simp [World.setCell, Array.getElem?_modify, hg]
    · rw [Array.toList_setIfInBounds, List.take_set, hl, hcur, rcells_set x hr]
/-- Where a row of records begins whose first l are left out. -/
def cutR (a : Option Addr) (cap l : Nat) : Option Addr := if cap = l then a else a.map (·.add (l * 3))
theorem size_record (w : World) : (sizeOf 38).run Tryz.prog w = .ok 3 w := by
  obtain ⟨i, hi, _, hsize, _⟩ := info_recE
  simp [sizeOf, typeInfo, hi, hsize]
theorem slice_fromR (a : Option Addr) (len cap l : Nat) (w : World) (hl : l ≤ len) : (Instr.slice 29 (.slice a len cap) (some (.int .i64 (l : Nat))) none none).run Tryz.prog w = .ok (.slice (cutR a cap l) (len - l) (cap - l)) w := by
  have he : Tryz.prog.elem 29 = 38 := by kernel_rfl
  rw [run_slice_l (P := Tryz.prog) w 29 a len cap (by rw [he]; exact Tryz.underlying29) .i64 (l : Nat) (by omega) (by omega), he, size_record]
  simp [Result.andThen, sliced, cutR]
theorem slice_toR (a : Option Addr) (len cap l : Nat) (w : World) (hl : l ≤ cap) : (Instr.slice 29 (.slice a len cap) none (some (.int .i64 (l : Nat))) none).run Tryz.prog w = .ok (.slice a l cap) w := by
  have he : Tryz.prog.elem 29 = 38 := by kernel_rfl
  have ha : a.map (fun x : Addr => x.add 0) = a := by
    cases a with
    | none => rfl
    | some x => obtain ⟨b, o, s⟩ := x; simp [Addr.add]
  rw [run_slice_h (P := Tryz.prog) w 29 a len cap (by rw [he]; exact Tryz.underlying29) .i64 (l : Nat) (by omega) (by omega), he, size_record]
  simp [Result.andThen, sliced, ha]
theorem RcsAt.take {w : World} {a : Option Addr} {ls : List Rc} (h : RcsAt nu w a ls) (k : Nat) : RcsAt nu w a (ls.take k) := fun j y hy => by
  rw [List.getElem?_take] at hy
  split at hy
  · exact h j y hy
  · cases hy
theorem RcsAt.drop {w : World} {a : Option Addr} {ls : List Rc} (h : RcsAt nu w a ls) (cap k : Nat) (hc : ls.length ≤ cap) : RcsAt nu w (cutR a cap k) (ls.drop k) := fun j y hy => by
  rw [List.getElem?_drop] at hy
  obtain ⟨xb, xo, rfl, c1, c2, c3⟩ := h (k + j) y hy
  have hlt := (List.getElem?_eq_some_iff.1 hy).1
  unfold cutR
  rw [if_neg (by omega)]
  refine ⟨xb, xo + k * 3, by simp only [Option.map_some, add_none], ?_, ?_, ?_⟩
  · rw [show xo + k * 3 + j * 3 = xo + (k + j) * 3 by omega]; exact c1
  · rw [show xo + k * 3 + j * 3 + 1 = xo + (k + j) * 3 + 1 by omega]; exact c2
  · rw [show xo + k * 3 + j * 3 + 2 = xo + (k + j) * 3 + 2 by omega]; exact c3

/-- All but the k-th record, in a new row: two appends. -/
theorem run_butR (w : World) (lo n : Nat) (ls : List Rc) (ad : Option Addr) (cp k : Nat) (hnil : ad = none → ls = [] ∧ cp = 0) (hp : RcsAt nu w ad ls) (hk : k < ls.length) (hcp : ls.length ≤ cp) (hl : ls.length ≤ 500) (hlo : lo ≤ w.heap.size) (hn : w.heap.size = n) :
    ∃ v6 w6 v7 w7, (Builtin.append_ #[29, 29] 29 #[.slice (some ⟨n, 0, none⟩) 0 0, .slice ad k cp]).run Tryz.prog (w.alloc (.cells #[] 38)) = .ok v6 w6 ∧
      (Builtin.append_ #[29, 29] 29 #[v6, .slice (cutR ad cp (k + 1)) (ls.length - (k + 1)) (cp - (k + 1))]).run Tryz.prog w6 = .ok v7 w7 ∧ Still w w6 ∧ Still w w7 ∧
      w7.ownsRow lo 38 3 v7 (ls.eraseIdx k).length (rcells nu (ls.eraseIdx k)) ∧ ∀ j, v7.ownBlock = some j → w.heap.size ≤ j := by
  subst hn
  have fA : Still w (w.alloc (.cells #[] 38)) := (Fr.refl _ w).alloc _
  have zA : (w.alloc (.cells #[] 38)).heap.size = w.heap.size + 1 := by simp
  have own0 : (w.alloc (.cells #[] 38)).ownsRow lo 38 3 (.slice (some ⟨w.heap.size, 0, none⟩) 0 0) ([] : List Rc).length (rcells nu []) :=
    ⟨rfl, .inr ⟨w.heap.size, 0, #[], rfl, hlo, heap_alloc_new w _, Nat.le_refl _, by unfold maxLen; omega, rfl, rfl⟩⟩
  have tk : (ls.take k).length = k := by rw [List.length_take]; omega
  have hne : ad ≠ none := fun e => by have := (hnil e).1; subst this; simp at hk
  obtain ⟨v6, w6, h6, M6⟩ := run_recs (w.alloc (.cells #[] 38)) lo 29 _ [] (ls.take k) own0 ad cp (fun e => absurd e hne) ((hp.kept fA).take k) (by simp; omega) (by omega)
  rw [tk] at h6
  have f6 : Still w w6 := by
    have : Fr (fun j => (Value.slice (some ⟨w.heap.size, 0, none⟩) 0 0).ownBlock = some j) (w.alloc (.cells #[] 38)) w6 := (Fr.refl _ _).grown M6.gr (fun r e => .inl e)
    exact fA.trans' this (fun j hj => .inr (by simp [Value.ownBlock] at hj; omega))
  have l6 : ∀ j, v6.ownBlock = some j → w.heap.size ≤ j := fun j hj => by
    rcases M6.loc with e | e
    · rw [hj] at e; simp [Value.ownBlock] at e; omega
    · rw [hj] at e; have := Option.some.inj e; omega
  have dl : (ls.drop (k + 1)).length = ls.length - (k + 1) := by simp
  obtain ⟨v7, w7, h7, M7⟩ := run_recs w6 lo 29 v6 (ls.take k) (ls.drop (k + 1)) (by simpa using M6.own) (cutR ad cp (k + 1)) (cp - (k + 1)) (fun e => by
    unfold cutR at e
    split at e
    · exact absurd e hne
    · cases ad with
      | none => exact absurd rfl hne
      | some x => simp at e) ((hp.kept f6).drop cp (k + 1) hcp) (by simp; omega) (by have := f6.size; omega)
  rw [dl] at h7
  have f7 : Still w w7 := by
    have : Fr (fun j => v6.ownBlock = some j) w6 w7 := (Fr.refl _ _).grown M7.gr (fun r e => .inl e)
    exact f6.trans' this (fun j hj => .inr (l6 j hj))
  refine ⟨v6, w6, v7, w7, by simpa using h6, h7, f6, f7, ?_, fun j hj => ?_⟩
  · rw [List.eraseIdx_eq_take_drop_succ]; exact M7.own
  · rcases M7.loc with e | e
    · exact l6 j (by rw [← e]; exact hj)
    · rw [hj] at e; have := Option.some.inj e; have := f6.size; omega
end
end

section
/-- What the closure finds. -/
structure PyW (nu sz : Nat) (w : World) (hb sb b : Nat) (T : Tay) (A : Ab) (P : List (Int × Int)) (bo bs bh bw ba bl bk bg : Nat) (kd : Int) (rs : List Rc) (ad : Option Addr) (cp kx : Nat) (wa : Option Addr) (n wc : Nat) (bt : Nat → Nat) : Prop where
  hp : Hp nu sz w hb sb b T A P
  R : Recs nu sz (says P A) rs
  len : P = []
  co : w.cell? ⟨bo, 0, none⟩ = some (.int .i64 kd)
  cs : w.cell? ⟨bs, 0, none⟩ = some (ptr sb)
  ch : w.cell? ⟨bh, 0, none⟩ = some (ptr hb)
  cw : w.cell? ⟨bw, 0, none⟩ = some (.slice wa n wc)
  nt : Nats .u8 w wa n bt
  hbt : ∀ i, i < n → bt i < 256
  nw : ∀ x, wa = some x → ¬ tfoot sb b T x.block
  cl : w.cell? ⟨bl, 0, none⟩ = some (.slice ad rs.length cp)
  rl : RcsAt nu w ad rs
  nr : ∀ x, ad = some x → ¬ tfoot sb b T x.block
  ck : w.cell? ⟨bk, 0, none⟩ = some (.int .i64 kx)
  kl : rs ≠ [] → kx < rs.length
  l2 : rs.length ≤ 100
  ca : Box w ba (.int .i64 0)
  cg : Box w bg (.bool false)
  no : ∀ k, k = bo ∨ k = bs ∨ k = bh ∨ k = bw ∨ k = ba ∨ k = bl ∨ k = bk ∨ k = bg → ¬ tfoot sb b T k
  kb : ∀ r ∈ rs, r.k ≤ 100

section
variable {nu sz : Nat} {w w' w0 : World} {hb sb b bo bs bh bw ba bl bk bg : Nat} {T : Tay} {A : Ab} {P : List (Int × Int)} {kd : Int} {rs : List Rc} {ad : Option Addr} {cp kx : Nat} {wa : Option Addr} {n wc : Nat} {bt : Nat → Nat}

set_option maxRecDepth 20000 in
set_option maxHeartbeats 2000000 in
theorem pyC0 (S : PyW nu sz w hb sb b T A P bo bs bh bw ba bl bk bg 0 rs ad cp kx wa n wc bt) :
    Calls Tryz.prog 8 #[ptr bo, ptr bs, ptr bh, ptr bw, ptr ba, ptr bl, ptr bk, ptr bg] w fun e w' => (n ≤ 4096 ∧ e = .returned (.tuple #[]) ∧ ∃ T' P' u us, OnxX (fun k => k = ba) w sb b T w' T' sz A P' false ∧ Box w' ba (.int .i64 (fi nu + 8 * u : Nat)) ∧ RecS nu sz (says P' A) u us n 1 (wordN bt n) ∧ Mde nu (says P A) (u :: us) (says P' A)) ∨ (e = .panicked (errnoQ 60) ∧ ∃ T' P', Onx w sb b T w' T' sz A P' false) ∨ (4096 < n ∧ e = .panicked (errnoQ 5) ∧ w' = w) := by
  have co := S.co; have cs := S.cs; have ch := S.ch; have cw := S.cw
  by_cases n4 : n ≤ 4096
  · have MK := r_makeB (cp := wc) S.hp S.R.st S.nt S.hbt n4 (by rw [S.len]; simp) S.nw
    have HMK := hide MK; have HS := hide S
    clear MK S
    go_enter Tryz.func8, Tryz.ntmps8
    go_wp2_with fail
    refine (unhide HMK).mono ?_
    clear HMK
    rintro e w1 (⟨u, us, g, rfl, t, rc, md⟩ | ⟨rfl, T', P', o⟩)
    · have S := unhide HS
      obtain ⟨T', P', o, eg, _⟩ := id t
      have nba := S.no ba (by simp)
      have bx := S.ca.kept o.fr nba
      have c := bx.c; have z := bx.z
      have lt := S.ca.lt
      have HX := hide (And.intro o (And.intro eg (And.intro rc (And.intro md (And.intro bx nba)))))
      clear t o eg rc md bx nba S
      go_wp2
      go_end0
      obtain ⟨o, eg, rc, md, bx, nba⟩ := unhide HX
      subst eg
      exact .inl ⟨n4, rfl, T', P', u, us, (OnxX.of o).var (Fr.box w1 ba _) (fun k hk => hk) (fun k hk => by have hk : k = ba := hk; subst hk; exact o.other lt nba), bx.set _, rc, md⟩
    · exact ⟨rfl, .inr (.inl ⟨rfl, T', P', o⟩)⟩
  · have MK := r_big (sb := sb) (hb := hb) (a := wa) (cp := wc) (show 4096 < n by omega) w
    have HMK := hide MK
    clear MK S
    go_enter Tryz.func8, Tryz.ntmps8
    go_wp2_with fail
    refine (unhide HMK).mono ?_
    rintro e w1 ⟨rfl, hh⟩
    exact ⟨rfl, .inr (.inr ⟨by omega, rfl, hh⟩)⟩

set_option maxRecDepth 20000 in
set_option maxHeartbeats 2000000 in
theorem pyCe (S : PyW nu sz w hb sb b T A P bo bs bh bw ba bl bk bg kd [] ad cp kx wa n wc bt) (h0 : kd ≠ 0) (h3 : kd ≠ 3) :
    Calls Tryz.prog 8 #[ptr bo, ptr bs, ptr bh, ptr bw, ptr ba, ptr bl, ptr bk, ptr bg] w fun e w' => e = .returned (.tuple #[]) ∧ w' = w := by
  have co := S.co; have cl := S.cl
  have k0 : (kd == 0) = false := by simpa using h0
  have k3 : (kd == 3) = false := by simpa using h3
  rw [List.length_nil] at cl
  clear S
  go_enter Tryz.func8, Tryz.ntmps8
  go_wp2
  go_end0
  exact ⟨rfl, rfl⟩

set_option maxRecDepth 20000 in
set_option maxHeartbeats 2000000 in
theorem pyC1 (S : PyW nu sz w hb sb b T A P bo bs bh bw ba bl bk bg 1 rs ad cp kx wa n wc bt) {r : Rc} (hr : rs[kx]? = some r) :
    Calls Tryz.prog 8 #[ptr bo, ptr bs, ptr bh, ptr bw, ptr ba, ptr bl, ptr bk, ptr bg] w fun e w' => e = .returned (.tuple #[]) ∧ To sz w sb b T A w' (upd (says P A) (fi nu + 8 * r.u + 1) ((r.k + 1 : Nat) : Int)) (P.length + 1) := by
  have co := S.co; have cs := S.cs; have cl := S.cl; have ck := S.ck
  have hlt := (List.getElem?_eq_some_iff.1 hr).1
  have hm := List.mem_of_getElem? hr
  obtain ⟨xb, xo, ea, y0, y1, y2⟩ := S.rl kx r hr
  have HD : ∀ w1, Still w w1 → Calls Tryz.prog 11 #[ptr sb, .int .i64 (fi nu + 8 * r.u : Nat)] w1 _ := fun w1 f1 => r_hold (S.hp.still f1) (by rw [S.len]; simp) (S.R.rc r hm).1
  have l0 : ((0 : Int) < rs.length) = True := by simp; omega
  have lk : ((kx : Int) < rs.length) = True := by simp; omega
  have l2 := S.l2
  have HHD := @hide _ HD
  clear HD S
  generalize rs.length = nl at *
  obtain ⟨p0, hp0⟩ : ∃ p0 : Int, ((fi nu + 8 * r.u : Nat) : Int) = p0 := ⟨_, rfl⟩
  simp only [hp0] at HHD y0
  clear hp0
  subst ea
  go_enter Tryz.func8, Tryz.ntmps8
  go_upto_region 8 with fail
  refine region_tailP 6 (by kernel_rfl) (by kernel_rfl) ?_
  simp only [List.take_succ_cons, List.take_zero, List.drop_succ_cons, List.drop_zero]
  repeat (go_big_quiet_step (first | fail))
  refine wpQuiet_nil ?_
  rintro _ ⟨nq, rfl⟩
  have H1 := hide (unhide HHD (w.drewN nq) ((Fr.refl _ w).drewN nq))
  clear HHD
  go_wp2_with fail
  refine (unhide H1).mono ?_
  clear H1
  rintro e w2 ⟨rfl, t⟩
  have HT := hide (t.after ((Fr.refl _ w).drewN nq))
  clear t
  go_wp2
  go_end0
  exact ⟨rfl, unhide HT⟩

/-- What Drop does, whether it is held on or not. -/
def DrR (nu : Nat) (f : Nat → Int) (r : Rc) (g : Bool) (f' : Nat → Int) : Prop := (g = true ∧ r.k = 1 ∧ Dropped nu f r.u r.us f') ∨ (g = false ∧ 2 ≤ r.k ∧ f' = upd f (fi nu + 8 * r.u + 1) ((r.k - 1 : Nat) : Int))
theorem r_drop (h : Hp nu sz w hb sb b T A P) (s : HpS nu (says P A)) (hm : P.length + 200 ≤ 6144) {r : Rc} (rc : RecS nu sz (says P A) r.u r.us r.n r.k (wordN r.bt r.n)) :
    Calls Tryz.prog 10 #[ptr sb, ptr hb, .int .i64 (fi nu + 8 * r.u : Nat)] w fun e w' => ∃ g f', e = .returned (.bool g) ∧ To sz w sb b T A w' f' (P.length + 200) ∧ DrR nu (says P A) r g f' := by
  by_cases h1 : r.k = 1
  · rw [h1] at rc
    refine (r_drop1 h s hm rc).mono ?_
    rintro e w' ⟨rfl, g, t, d⟩
    exact ⟨true, g, rfl, t, .inl ⟨rfl, h1, d⟩⟩
  · have h2 : 2 ≤ r.k := by have := rc.k1; omega
    refine (r_drop2 h s (by omega) rc h2).mono ?_
    rintro e w' ⟨rfl, t⟩
    exact ⟨false, _, rfl, t.le (by omega), .inr ⟨rfl, h2, rfl⟩⟩

set_option maxRecDepth 20000 in
set_option maxHeartbeats 2000000 in
theorem pyC2 (S : PyW nu sz w hb sb b T A P bo bs bh bw ba bl bk bg kd rs ad cp kx wa n wc bt) {r : Rc} (hr : rs[kx]? = some r) (h0 : kd ≠ 0) (h3 : kd ≠ 3) (h1 : kd ≠ 1) :
    Calls Tryz.prog 8 #[ptr bo, ptr bs, ptr bh, ptr bw, ptr ba, ptr bl, ptr bk, ptr bg] w fun e w' => e = .returned (.tuple #[]) ∧ ∃ g T' P', OnxX (fun k => k = bg) w sb b T w' T' sz A P' false ∧ Box w' bg (.bool g) ∧ DrR nu (says P A) r g (says P' A) := by
  have co := S.co; have cs := S.cs; have ch := S.ch; have cl := S.cl; have ck := S.ck
  have hlt := (List.getElem?_eq_some_iff.1 hr).1
  have hm := List.mem_of_getElem? hr
  obtain ⟨xb, xo, ea, y0, y1, y2⟩ := S.rl kx r hr
  have HD : ∀ w1, Still w w1 → Calls Tryz.prog 10 #[ptr sb, ptr hb, .int .i64 (fi nu + 8 * r.u : Nat)] w1 _ := fun w1 f1 => r_drop (S.hp.still f1) S.R.st (by rw [S.len]; simp) (S.R.rc r hm).1
  have l0 : ((0 : Int) < rs.length) = True := by simp; omega
  have lk : ((kx : Int) < rs.length) = True := by simp; omega
  have l2 := S.l2
  have k0 : (kd == 0) = false := by simpa using h0
  have k3 : (kd == 3) = false := by simpa using h3
  have k1 : (kd == 1) = false := by simpa using h1
  have HHD := @hide _ HD; have HB := hide (And.intro S.cg (S.no bg (by simp)))
  clear HD S
  generalize rs.length = nl at *
  obtain ⟨p0, hp0⟩ : ∃ p0 : Int, ((fi nu + 8 * r.u : Nat) : Int) = p0 := ⟨_, rfl⟩
  simp only [hp0] at HHD y0
  clear hp0
  subst ea
  go_enter Tryz.func8, Tryz.ntmps8
  go_upto_region 10 with fail
  refine region_tailP 7 (by kernel_rfl) (by kernel_rfl) ?_
  simp only [List.take_succ_cons, List.take_zero, List.drop_succ_cons, List.drop_zero]
  repeat (go_big_quiet_step (first | fail))
  refine wpQuiet_nil ?_
  rintro _ ⟨nq, rfl⟩
  have H1 := hide (unhide HHD (w.drewN nq) ((Fr.refl _ w).drewN nq))
  clear HHD
  go_wp2_with fail
  refine (unhide H1).mono ?_
  clear H1
  rintro e w2 ⟨g, f', rfl, t, d⟩
  obtain ⟨cg, nbg⟩ := unhide HB
  have lt := cg.lt
  obtain ⟨T2, P2, o, e2, _⟩ := t.after ((Fr.refl _ w).drewN nq)
  have bx := cg.kept o.fr nbg
  have c := bx.c; have z := bx.z
  have HX := hide (And.intro o (And.intro e2 (And.intro d (And.intro bx nbg))))
  clear t o e2 d bx nbg cg HB
  go_wp2
  go_end0
  obtain ⟨o, e2, d, bx, nbg⟩ := unhide HX
  subst e2
  exact ⟨rfl, g, T2, P2, (OnxX.of o).var (Fr.box w2 bg _) (fun k hk => hk) (fun k hk => by have hk : k = bg := hk; subst hk; exact o.other lt nbg), bx.set _, d⟩

/-- Six bytes. -/
def undB : Nat → Nat := fun i => if i = 0 then 117 else if i = 1 then 110 else if i = 2 then 100 else if i = 3 then 111 else if i = 4 then 110 else 101

set_option maxRecDepth 20000 in
set_option maxHeartbeats 4000000 in
theorem pyC3 (S : PyW nu sz w hb sb b T A P bo bs bh bw ba bl bk bg 3 rs ad cp kx wa n wc bt) :
    Calls Tryz.prog 8 #[ptr bo, ptr bs, ptr bh, ptr bw, ptr ba, ptr bl, ptr bk, ptr bg] w fun e w' => (e = .panicked (errnoQ 61) ∨ e = .panicked (errnoQ 60)) ∧ ∃ T' P', Onx w sb b T w' T' sz A P' false := by
  have co := S.co; have cs := S.cs; have ch := S.ch
  obtain ⟨W1, hW1⟩ : ∃ W1, w.alloc (.cells #[.int .u8 117, .int .u8 110, .int .u8 100, .int .u8 111, .int .u8 110, .int .u8 101] 5 (6, 7)) = W1 := ⟨_, rfl⟩
  have f1 : Still w W1 := hW1 ▸ (Fr.refl _ w).alloc _
  have o1 : W1.heap[w.heap.size]? = some (.cells #[.int .u8 117, .int .u8 110, .int .u8 100, .int .u8 111, .int .u8 110, .int .u8 101] 5 (6, 7)) := hW1 ▸ heap_alloc_new w _
  have hN : Nats .u8 W1 (some ⟨w.heap.size, 0, none⟩) 6 undB := fun i hi => by
    refine ⟨_, _, rfl, ?_⟩
    rcases (show i = 0 ∨ i = 1 ∨ i = 2 ∨ i = 3 ∨ i = 4 ∨ i = 5 by omega) with rfl | rfl | rfl | rfl | rfl | rfl
    · exact cell_of_obj o1 0
    · exact cell_of_obj o1 1
    · exact cell_of_obj o1 2
    · exact cell_of_obj o1 3
    · exact cell_of_obj o1 4
    · exact cell_of_obj o1 5
  have hb6 : ∀ i, i < 6 → undB i < 256 := fun i _ => by unfold undB; (repeat' split) <;> omega
  have MK := r_makeB (cp := 6) (S.hp.still f1) S.R.st hN hb6 (by omega) (by rw [S.len]; simp) (fun x hx => by
    injection hx with hx
    rw [← hx]
    exact fun y => by have := S.hp.st.lt _ y; simp at this)
  have cv : (convert 30 30 (.slice (some ⟨w.heap.size, 0, none⟩) 6 6)).run Tryz.prog (w.alloc (.cells #[.int .u8 117, .int .u8 110, .int .u8 100, .int .u8 111, .int .u8 110, .int .u8 101] 5)) = .ok (.slice (some ⟨w.heap.size, 0, none⟩) 6 6) (w.alloc (.cells #[.int .u8 117, .int .u8 110, .int .u8 100, .int .u8 111, .int .u8 110, .int .u8 101] 5 (6, 7))) := Lib.run_convert_bytes_const w 30 5 #[.int .u8 117, .int .u8 110, .int .u8 100, .int .u8 111, .int .u8 110, .int .u8 101] 6 6 Tryz.underlying30 Tryz.underlying5
  have HMK := hide MK; have HS := hide (And.intro S (And.intro f1 hW1)); have HB6 := @hide _ hb6
  clear MK S f1 hW1 o1 hN hb6
  go_enter Tryz.func8, Tryz.ntmps8
  go_wp2_with fail
  rw [(unhide HS).2.2]
  refine (unhide HMK).mono ?_
  clear HMK cv
  rintro e w1 (⟨u, us, g, rfl, t, rc, md⟩ | ⟨rfl, T', P', o⟩)
  · obtain ⟨S, f1, hW1⟩ := unhide HS
    obtain ⟨T2, P2, o2, e2, l2⟩ := t
    subst e2
    have o02 := o2.after f1
    have cl : w1.cell? ⟨bl, 0, none⟩ = some (.slice ad rs.length cp) := o02.fr.cell' S.cl (S.no bl (by simp))
    by_cases hne : rs = []
    · subst hne
      rw [List.length_nil] at cl
      have HO := hide o02
      clear S f1 hW1 o2 o02 rc md
      go_wp2
      exact ⟨rfl, .inl rfl, T2, P2, unhide HO⟩
    · have kl := S.kl hne
      obtain ⟨r, hr⟩ : ∃ r, rs[kx]? = some r := ⟨_, List.getElem?_eq_getElem (l := rs) (i := kx) kl⟩
      have hm := List.mem_of_getElem? hr
      have R2 := S.R.made md rc (unhide HB6)
      have h2 := S.hp.call o02
      obtain ⟨xb, xo, ea, y0, y1, y2⟩ := (S.rl.fr o02.fr S.nr) kx r hr
      have lp : P2.length + 200 ≤ 6144 := by have := S.len; subst this; simp at l2; omega
      have HD : ∀ w3, Still w1 w3 → Calls Tryz.prog 10 #[ptr sb, ptr hb, .int .i64 (fi nu + 8 * r.u : Nat)] w3 _ := fun w3 f3 => r_drop (h2.still f3) R2.st lp (R2.rc r (by simp [hm])).1
      have cs2 : w1.cell? ⟨bs, 0, none⟩ = some (ptr sb) := o02.fr.cell' S.cs (S.no bs (by simp))
      have ch2 : w1.cell? ⟨bh, 0, none⟩ = some (ptr hb) := o02.fr.cell' S.ch (S.no bh (by simp))
      have ck2 : w1.cell? ⟨bk, 0, none⟩ = some (.int .i64 kx) := o02.fr.cell' S.ck (S.no bk (by simp))
      have l0 : ((0 : Int) < rs.length) = True := by simp; omega
      have lk : ((kx : Int) < rs.length) = True := by simp; omega
      have l2' := S.l2
      have HHD := @hide _ HD; have HO := hide o02
      clear HD S f1 hW1 o2 o02 rc md R2 h2 l2 lp hr hm HS
      generalize rs.length = nl at *
      obtain ⟨p0, hp0⟩ : ∃ p0 : Int, ((fi nu + 8 * r.u : Nat) : Int) = p0 := ⟨_, rfl⟩
      simp only [hp0] at HHD y0
      clear hp0 co cs ch hne
      subst ea
      go_upto_region 5 with fail
      refine region_tailP 7 (by kernel_rfl) (by kernel_rfl) ?_
      simp only [List.take_succ_cons, List.take_zero, List.drop_succ_cons, List.drop_zero]
      repeat (go_big_quiet_step (first | fail))
      refine wpQuiet_nil ?_
      rintro _ ⟨nq, rfl⟩
      have H1 := hide (unhide HHD (w1.drewN nq) ((Fr.refl _ w1).drewN nq))
      clear HHD
      go_wp2_with fail
      refine (unhide H1).mono ?_
      clear H1
      rintro e w2 ⟨g, f', rfl, t, d⟩
      obtain ⟨T3, P3, o3, e3, _⟩ := t.after ((Fr.refl _ w1).drewN nq)
      have HO3 := hide ((unhide HO).trans o3)
      clear t o3 e3 d
      go_wp2
      exact ⟨rfl, .inl rfl, T3, P3, unhide HO3⟩
  · obtain ⟨S, f1, hW1⟩ := unhide HS
    exact ⟨rfl, .inr rfl, T', P', o.after f1⟩
end
end

section
section
variable {nu sz : Nat} {w w' w0 : World} {hb sb b bs bh bl bn bo : Nat} {T : Tay} {A : Ab} {rs : List Rc} {ad : Option Addr} {cp : Nat}

theorem allU_take {rs : List Rc} {m : Nat} {r : Rc} (h : rs[m]? = some r) : (allU (rs.take (m + 1))).length = (allU (rs.take m)).length + (r.us.length + 1) := by
  rw [List.take_add_one, h, allU_app, List.length_append]
  simp [allU, Rc.all]
theorem allU_take_le (rs : List Rc) (m : Nat) : (allU (rs.take m)).length ≤ (allU rs).length := by
  conv => rhs; rw [← List.take_append_drop m rs, allU_app, List.length_append]
  omega
theorem Recs.few {f : Nat → Int} (R : Recs nu sz f rs) (hn : nu ≤ 4000) : (allU rs).length ≤ 4000 := by
  rw [← R.cnt]; have := cnt_le nu (ask nu f); omega

set_option maxRecDepth 20000 in
set_option maxHeartbeats 8000000 in
theorem sdC (hp : Hp nu sz w hb sb b T A []) (R : Recs nu sz (says [] A) rs) (cl : w.cell? ⟨bl, 0, none⟩ = some (.slice ad rs.length cp)) (cs : w.cell? ⟨bs, 0, none⟩ = some (ptr sb)) (ch : w.cell? ⟨bh, 0, none⟩ = some (ptr hb)) (rl : RcsAt nu w ad rs) (Bn : Box w bn (.int .i64 0)) (Bo : Box w bo (.bool true))
    (nt : ¬ tfoot sb b T bn ∧ ¬ tfoot sb b T bo) (ne : bl ≠ bn ∧ bl ≠ bo ∧ bs ≠ bn ∧ bs ≠ bo ∧ bh ≠ bn ∧ bh ≠ bo ∧ bn ≠ bo ∧ hb ≠ bn ∧ hb ≠ bo ∧ 0 ≠ bn ∧ 0 ≠ bo) (nr : ∀ x, ad = some x → x.block ≠ bn ∧ x.block ≠ bo) (l100 : rs.length ≤ 100) :
    Calls Tryz.prog 39 #[ptr bl, ptr bs, ptr bh, ptr bn, ptr bo] w fun e w' => e = .returned (.tuple #[]) ∧ Fr (fun k => k = bn ∨ k = bo) w w' ∧ Box w' bn (.int .i64 ((allU rs).length : Nat)) ∧ Box w' bo (.bool true) := by
  obtain ⟨g1, g2, g3, g4, g5, g6⟩ := hp.hp.geo.b
  have few := R.few (by omega)
  obtain ⟨nl, hnl⟩ : ∃ nl, rs.length = nl := ⟨_, rfl⟩
  rw [hnl] at cl l100
  have HX := hide (And.intro hp (And.intro R (And.intro rl (And.intro Bn (And.intro Bo (And.intro nt few))))))
  have HNR := @hide _ nr; have HNL := hide hnl
  have HC := hide (And.intro cl (And.intro cs ch))
  clear hp R rl Bn Bo nt few nr hnl g1 g2 g3 g4 g5 g6
  go_enter Tryz.func39, Tryz.ntmps39
  go_wp2_with fail
  go_loopw [5] (fun iv wr => ∃ m : Nat, m ≤ nl ∧ iv = .int .i64 m ∧ Fr (fun k => k = bn ∨ k = bo) w wr ∧ Box wr bn (.int .i64 ((allU (rs.take m)).length : Nat)) ∧ Box wr bo (.bool true)) (fun iv wr => nl - (intOf iv).toNat)
  case atStart =>
    obtain ⟨hp, R, rl, Bn, Bo, nt, few⟩ := unhide HX
    exact ⟨0, by omega, rfl, Fr.refl _ _, by simpa [allU] using Bn, Bo⟩
  case round =>
    obtain ⟨m, hm, rfl, fr, bxn, bxo⟩ := hrel
    generalize wr = wq at *
    clear wr
    obtain ⟨hp, R, rl, Bn, Bo, nt, few⟩ := unhide HX
    have nf : ∀ k, k ≠ bn → k ≠ bo → ¬ (fun k => k = bn ∨ k = bo) k := fun k h1 h2 e => e.elim h1 h2
    replace cl := fr.cell' cl (nf bl ne.1 ne.2.1)
    replace cs := fr.cell' cs (nf bs ne.2.2.1 ne.2.2.2.1)
    replace ch := fr.cell' ch (nf bh ne.2.2.2.2.1 ne.2.2.2.2.2.1)
    by_cases hlt : m < nl
    · have hlt' : ((m : Int) < nl) = True := by simp; omega
      obtain ⟨r, hr⟩ : ∃ r, rs[m]? = some r := ⟨_, List.getElem?_eq_getElem (l := rs) (i := m) (by rw [unhide HNL]; exact hlt)⟩
      have hrm := List.mem_of_getElem? hr
      obtain ⟨xb, xo, ea, y0, y1, y2⟩ := (rl.fr fr (fun x hx => nf _ (unhide HNR x hx).1 (unhide HNR x hx).2)) m r hr
      have xn := unhide HNR _ ea
      have hq := hp.turn fr (fun k hk => by rcases hk with rfl | rfl; exact nt.1; exact nt.2) (nf hb ne.2.2.2.2.2.2.2.1 ne.2.2.2.2.2.2.2.2.1) (nf 0 ne.2.2.2.2.2.2.2.2.2.1 ne.2.2.2.2.2.2.2.2.2.2)
      obtain ⟨rc, rb8⟩ := R.rc r hrm
      have tun : ∀ w1, Fr (fun k => k = bn ∨ k = bo) wq w1 → Hp nu sz w1 hb sb b T A [] := fun w1 f1 => hq.turn f1 (fun k hk => by rcases hk with rfl | rfl; exact nt.1; exact nt.2) (nf hb ne.2.2.2.2.2.2.2.1 ne.2.2.2.2.2.2.2.2.1) (nf 0 ne.2.2.2.2.2.2.2.2.2.1 ne.2.2.2.2.2.2.2.2.2.2)
      have PC : ∀ w1, Fr (fun k => k = bn ∨ k = bo) wq w1 → Calls Tryz.prog 17 #[ptr sb, ptr hb, .int .i64 (fi nu + 8 * r.u : Nat)] w1 _ := fun w1 f1 => r_pieces (tun w1 f1) R.st rc
      have RD : ∀ w1, Fr (fun k => k = bn ∨ k = bo) wq w1 → Calls Tryz.prog 16 #[ptr sb, ptr hb, .int .i64 (fi nu + 8 * r.u : Nat)] w1 _ := fun w1 f1 => r_read (tun w1 f1) R.st r.bt rb8 rc
      have LN : ∀ w1, Fr (fun k => k = bn ∨ k = bo) wq w1 → Calls Tryz.prog 22 #[ptr sb, .int .i64 (fi nu + 8 * r.u : Nat)] w1 _ := fun w1 f1 => r_len (tun w1 f1) rc
      have HL : ∀ w1, Fr (fun k => k = bn ∨ k = bo) wq w1 → Calls Tryz.prog 23 #[ptr sb, .int .i64 (fi nu + 8 * r.u : Nat)] w1 _ := fun w1 f1 => r_held (tun w1 f1) rc
      have hul := rc.len
      have hal := allU_take hr
      have hle := allU_take_le rs (m + 1)
      have hsz := strB_size r.bt r.n
      have n4 := rc.ch.1.n4
      have rk2 := rc.k2
      have HPC := @hide _ PC; have HRD := @hide _ RD; have HLN := @hide _ LN; have HHL := @hide _ HL
      have HB := hide (And.intro fr (And.intro bxn (And.intro bxo (And.intro hal hle))))
      have pl0 : (natVals (plcs nu (r.u :: r.us)))[0]? = some (.int .i64 (fi nu + 8 * r.u : Nat)) := by simp [natVals, plcs]
      have HPL := hide pl0
      have cbn := bxn.c
      obtain ⟨Al, hAl⟩ : ∃ Al, (allU (rs.take m)).length = Al := ⟨_, rfl⟩
      rw [hAl] at cbn hal
      have hA4 : Al ≤ 4000 := by omega
      have HAL := hide hAl
      clear PC RD LN HL tun hq rc rb8 hp R rl Bn Bo nt few fr bxn bxo hal hle hr hrm pl0 hAl
      obtain ⟨p0, hp0⟩ : ∃ p0 : Int, ((fi nu + 8 * r.u : Nat) : Int) = p0 := ⟨_, rfl⟩
      simp only [hp0] at HPC HRD HLN HHL y0 HPL
      clear hp0
      obtain ⟨rk, hrk⟩ : ∃ rk, r.k = rk := ⟨_, rfl⟩
      obtain ⟨dt, hdt⟩ : ∃ dt, strB r.bt r.n = dt := ⟨_, rfl⟩
      rw [hrk] at y1 HHL rk2
      rw [hdt] at y2 hsz
      have HDT := hide (And.intro hrk hdt)
      clear hrk hdt
      subst ea
      go_upto_region 3 with fail
      refine region_tailP 7 (by kernel_rfl) (by kernel_rfl) ?_
      simp only [List.take_succ_cons, List.take_zero, List.drop_succ_cons, List.drop_zero]
      repeat (go_big_quiet_step (first | fail))
      refine wpQuiet_nil ?_
      rintro _ ⟨nq, rfl⟩
      have fq0 : Still wq (wq.drewN nq) := (Fr.refl _ wq).drewN nq
      have H1 := hide (unhide HPC (wq.drewN nq) (fq0.mono (fun _ hk => hk.elim)))
      clear HPC
      go_wp2_with fail
      refine (unhide H1).mono ?_
      clear H1
      rintro e w2 ⟨vp, rfl, ow, f2'⟩
      have f2 : Still wq w2 := fq0.trans' f2' (fun _ x => x.elim)
      obtain ⟨pg, pc, rfl⟩ : ∃ pg pc, vp = .slice (some ⟨pg, 0, none⟩) (r.us.length + 1) pc := by
        rcases row_form ow with ⟨_, e0⟩ | ⟨gp, capp, e0⟩
        · omega
        · exact ⟨gp, capp, e0⟩
      have yp : w2.cell? ⟨pg, 0, none⟩ = some (.int .i64 p0) := by
        have h0 := ow.cellAt 0 (by omega)
        rw [h0]
        exact unhide HPL
      have pgl := (ow.lt pg rfl).1
      have bxn := (unhide HB).2.1; have bxo := (unhide HB).2.2.1
      have lbn := bxn.lt; have lbo := bxo.lt
      have pgn : pg ≠ bn ∧ pg ≠ bo := by
        have e : (wq.drewN nq).heap.size = wq.heap.size := rfl
        omega
      have bxn2 := bxn.kept f2 (fun x => x); have bxo2 := bxo.kept f2 (fun x => x)
      obtain ⟨ul, hul'⟩ : ∃ ul, r.us.length = ul := ⟨_, rfl⟩
      rw [hul'] at hul
      obtain ⟨W4, hW4⟩ : ∃ W4, w2.setCell ⟨bn, 0, none⟩ (.int .i64 ((Al : Int) + ((ul : Int) + 1))) = W4 := ⟨_, rfl⟩
      have f4 : Fr (fun k => k = bn) w2 W4 := hW4 ▸ Fr.box w2 bn _
      have B4n : Box W4 bn (.int .i64 ((Al : Int) + ((ul : Int) + 1))) := hW4 ▸ bxn2.set _
      have B4o : Box W4 bo (.bool true) := bxo2.kept f4 (fun e => ne.2.2.2.2.2.2.1 e.symm)
      have F4 : Fr (fun k => k = bn ∨ k = bo) wq W4 := (f2.mono (G := fun k => k = bn ∨ k = bo) (fun _ hk => hk.elim)).trans (f4.mono (fun k hk => .inl (.inl hk)))
      have c2n := bxn2.c; have z2n := bxn2.z
      rw [unhide HAL] at c2n
      have e4 : (Al : Int) + ((ul : Int) + 1) = ((Al + (ul + 1) : Nat) : Int) := by omega
      have w4a : IntKind.i64.wrap ((Al : Int) + ((ul : Int) + 1)) = (Al : Int) + ((ul : Int) + 1) := (wrap_small _ (by omega) (by omega)).1
      have nfn : ∀ k, k ≠ bn → ¬ (fun k => k = bn) k := fun k h e => h e
      have hS4 : (fun w' => w'.cell? ⟨bl, 0, none⟩ = some (.slice (some ⟨xb, xo, none⟩) nl cp) ∧ w'.cell? ⟨bs, 0, none⟩ = some (ptr sb) ∧ w'.cell? ⟨bh, 0, none⟩ = some (ptr hb) ∧ w'.cell? ⟨bo, 0, none⟩ = some (.bool true) ∧ w'.cell? ⟨pg, 0, none⟩ = some (.int .i64 p0) ∧ w'.cell? ⟨xb, xo + m * 3, none⟩ = some (.int .i64 p0) ∧ w'.cell? ⟨xb, xo + m * 3 + 1, none⟩ = some (.int .i64 rk) ∧ w'.cell? ⟨xb, xo + m * 3 + 2, none⟩ = some (.string dt)) W4 := ⟨f4.cell' (f2.cell' cl (fun x => x)) (nfn _ ne.1), f4.cell' (f2.cell' cs (fun x => x)) (nfn _ ne.2.2.1), f4.cell' (f2.cell' ch (fun x => x)) (nfn _ ne.2.2.2.2.1), B4o.c, f4.cell' yp (nfn _ pgn.1), f4.cell' (f2.cell' y0 (fun x => x)) (nfn _ xn.1), f4.cell' (f2.cell' y1 (fun x => x)) (nfn _ xn.1), f4.cell' (f2.cell' y2 (fun x => x)) (nfn _ xn.1)⟩
      have HW4 := hide hW4; have H4 := hide (And.intro B4n (And.intro B4o F4)); have HUL := hide hul'
      rw [hul']
      clear ow yp f2' f2 fq0 bxn bxo bxn2 bxo2 hW4 f4 B4n B4o F4 y0 y1 y2 cl cs ch cbn e4 hul' lbn lbo pgl
      go_upto_region 5 with fail
      rw [unhide HW4]
      obtain ⟨W, hW⟩ : ∃ W, W4.drew = W := ⟨_, rfl⟩
      have fW : Still W4 W := hW ▸ (Fr.refl _ W4).drewN 1
      refine wp_region_held_drew (S := fun w' => w'.cell? ⟨bl, 0, none⟩ = some (.slice (some ⟨xb, xo, none⟩) nl cp) ∧ w'.cell? ⟨bs, 0, none⟩ = some (ptr sb) ∧ w'.cell? ⟨bh, 0, none⟩ = some (ptr hb) ∧ w'.cell? ⟨bo, 0, none⟩ = some (.bool true) ∧ w'.cell? ⟨pg, 0, none⟩ = some (.int .i64 p0) ∧ w'.cell? ⟨xb, xo + m * 3, none⟩ = some (.int .i64 p0) ∧ w'.cell? ⟨xb, xo + m * 3 + 1, none⟩ = some (.int .i64 rk) ∧ w'.cell? ⟨xb, xo + m * 3 + 2, none⟩ = some (.string dt)) (by kernel_rfl) ?_ (fun hHeld => ?_)
      · rw [hW]; exact ⟨fW.cell' hS4.1 (fun x => x), fW.cell' hS4.2.1 (fun x => x), fW.cell' hS4.2.2.1 (fun x => x), fW.cell' hS4.2.2.2.1 (fun x => x), fW.cell' hS4.2.2.2.2.1 (fun x => x), fW.cell' hS4.2.2.2.2.2.1 (fun x => x), fW.cell' hS4.2.2.2.2.2.2.1 (fun x => x), fW.cell' hS4.2.2.2.2.2.2.2 (fun x => x)⟩
      rw [hW] at hHeld ⊢
      clear hW hS4
      have FW : Fr (fun k => k = bn ∨ k = bo) wq W := (unhide H4).2.2.trans (fW.mono (G := fun k => k = bn ∨ k = bo) (fun _ hk => hk.elim))
      refine take_l 0 (v := ?_) rfl (by kernel_rfl) (by kernel_rfl) (by kernel_rfl) (fun _ _ _ h => h) (Or.inl ⟨by rfl, ?_⟩) hHeld ?_
      rotate_left
      · (intro w hSw; (try dsimp only at hSw); go_simp; (try with_reducible rfl))
      simp only [Act.put, List.setIfInBounds_toArray, List.set_cons_zero, List.set_cons_succ]
      refine take_l 1 (v := ?_) rfl (by kernel_rfl) (by kernel_rfl) (by kernel_rfl) (fun _ _ _ h => h) (Or.inl ⟨by rfl, ?_⟩) hHeld ?_
      rotate_left
      · (intro w hSw; (try dsimp only at hSw); go_simp; (try with_reducible rfl))
      simp only [Act.put, List.setIfInBounds_toArray, List.set_cons_zero, List.set_cons_succ]
      refine take_l 2 (v := ?_) rfl (by kernel_rfl) (by kernel_rfl) (by kernel_rfl) (fun _ _ _ h => h) (Or.inl ⟨by rfl, ?_⟩) hHeld ?_
      rotate_left
      · (intro w hSw; (try dsimp only at hSw); go_simp; (try with_reducible rfl))
      simp only [Act.put, List.setIfInBounds_toArray, List.set_cons_zero, List.set_cons_succ]
      refine take_l 3 (v := ?_) rfl (by kernel_rfl) (by kernel_rfl) (by kernel_rfl) (fun _ _ _ h => h) (Or.inl ⟨by rfl, ?_⟩) hHeld ?_
      rotate_left
      · (intro w hSw; (try dsimp only at hSw); go_simp; (try with_reducible rfl))
      simp only [Act.put, List.setIfInBounds_toArray, List.set_cons_zero, List.set_cons_succ]
      refine take_l 4 (v := ?_) rfl (by kernel_rfl) (by kernel_rfl) (by kernel_rfl) (fun _ _ _ h => h) (Or.inl ⟨by rfl, ?_⟩) hHeld ?_
      rotate_left
      · (intro w hSw; (try dsimp only at hSw); go_simp; (try with_reducible rfl))
      simp only [Act.put, List.setIfInBounds_toArray, List.set_cons_zero, List.set_cons_succ]
      refine take_l 5 (v := ?_) rfl (by kernel_rfl) (by kernel_rfl) (by kernel_rfl) (fun _ _ _ h => h) (Or.inl ⟨by rfl, ?_⟩) hHeld ?_
      rotate_left
      · (intro w hSw; (try dsimp only at hSw); go_simp; (try with_reducible rfl))
      simp only [Act.put, List.setIfInBounds_toArray, List.set_cons_zero, List.set_cons_succ]
      refine take_l 6 (v := ?_) rfl (by kernel_rfl) (by kernel_rfl) (by kernel_rfl) (fun _ _ _ h => h) (Or.inl ⟨by rfl, ?_⟩) hHeld ?_
      rotate_left
      · (intro w hSw; (try dsimp only at hSw); go_simp; (try with_reducible rfl))
      simp only [Act.put, List.setIfInBounds_toArray, List.set_cons_zero, List.set_cons_succ]
      refine take_l 7 (v := ?_) rfl (by kernel_rfl) (by kernel_rfl) (by kernel_rfl) (fun _ _ _ h => h) (Or.inl ⟨by rfl, ?_⟩) hHeld ?_
      rotate_left
      · (intro w hSw; (try dsimp only at hSw); go_simp; (try with_reducible rfl))
      simp only [Act.put, List.setIfInBounds_toArray, List.set_cons_zero, List.set_cons_succ]
      refine take_l 8 (v := ?_) rfl (by kernel_rfl) (by kernel_rfl) (by kernel_rfl) (fun _ _ _ h => h) (Or.inl ⟨by rfl, ?_⟩) hHeld ?_
      rotate_left
      · (intro w hSw; (try dsimp only at hSw); go_simp; (try with_reducible rfl))
      simp only [Act.put, List.setIfInBounds_toArray, List.set_cons_zero, List.set_cons_succ]
      refine take_l 9 (v := ?_) rfl (by kernel_rfl) (by kernel_rfl) (by kernel_rfl) (fun _ _ _ h => h) (Or.inl ⟨by rfl, ?_⟩) hHeld ?_
      rotate_left
      · (intro w hSw; (try dsimp only at hSw); go_simp; (try with_reducible rfl))
      simp only [Act.put, List.setIfInBounds_toArray, List.set_cons_zero, List.set_cons_succ]
      refine take_l 10 (v := ?_) rfl (by kernel_rfl) (by kernel_rfl) (by kernel_rfl) (fun _ _ _ h => h) (Or.inl ⟨by rfl, ?_⟩) hHeld ?_
      rotate_left
      · (intro w hSw; (try dsimp only at hSw); go_simp; (try with_reducible rfl))
      simp only [Act.put, List.setIfInBounds_toArray, List.set_cons_zero, List.set_cons_succ]
      refine take_l 11 (v := ?_) rfl (by kernel_rfl) (by kernel_rfl) (by kernel_rfl) (fun _ _ _ h => h) (Or.inl ⟨by rfl, ?_⟩) hHeld ?_
      rotate_left
      · (intro w hSw; (try dsimp only at hSw); go_simp; (try with_reducible rfl))
      simp only [Act.put, List.setIfInBounds_toArray, List.set_cons_zero, List.set_cons_succ]
      refine take_l 12 (v := ?_) rfl (by kernel_rfl) (by kernel_rfl) (by kernel_rfl) (fun _ _ _ h => h) (Or.inl ⟨by rfl, ?_⟩) hHeld ?_
      rotate_left
      · (intro w hSw; (try dsimp only at hSw); go_simp; (try with_reducible rfl))
      simp only [Act.put, List.setIfInBounds_toArray, List.set_cons_zero, List.set_cons_succ]
      refine take_l 13 (v := ?_) rfl (by kernel_rfl) (by kernel_rfl) (by kernel_rfl) (fun _ _ _ h => h) (Or.inl ⟨by rfl, ?_⟩) hHeld ?_
      rotate_left
      · (intro w hSw; (try dsimp only at hSw); go_simp; (try with_reducible rfl))
      simp only [Act.put, List.setIfInBounds_toArray, List.set_cons_zero, List.set_cons_succ]
      refine take_l 14 (v := ?_) rfl (by kernel_rfl) (by kernel_rfl) (by kernel_rfl) (fun _ _ _ h => h) (Or.inl ⟨by rfl, ?_⟩) hHeld ?_
      rotate_left
      · (intro w hSw; (try dsimp only at hSw); go_simp; (try with_reducible rfl))
      simp only [Act.put, List.setIfInBounds_toArray, List.set_cons_zero, List.set_cons_succ]
      refine take_l 15 (v := ?_) rfl (by kernel_rfl) (by kernel_rfl) (by kernel_rfl) (fun _ _ _ h => h) (Or.inl ⟨by rfl, ?_⟩) hHeld ?_
      rotate_left
      · (intro w hSw; (try dsimp only at hSw); go_simp; (try with_reducible rfl))
      simp only [Act.put, List.setIfInBounds_toArray, List.set_cons_zero, List.set_cons_succ]
      refine take_l 16 (v := ?_) rfl (by kernel_rfl) (by kernel_rfl) (by kernel_rfl) (fun _ _ _ h => h) (Or.inl ⟨by rfl, ?_⟩) hHeld ?_
      rotate_left
      · (intro w hSw; (try dsimp only at hSw); go_simp; (try with_reducible rfl))
      simp only [Act.put, List.setIfInBounds_toArray, List.set_cons_zero, List.set_cons_succ]
      refine take_l 17 (v := ?_) rfl (by kernel_rfl) (by kernel_rfl) (by kernel_rfl) (fun _ _ _ h => h) (Or.inl ⟨by rfl, ?_⟩) hHeld ?_
      rotate_left
      · (intro w hSw; (try dsimp only at hSw); go_simp; (try with_reducible rfl))
      simp only [Act.put, List.setIfInBounds_toArray, List.set_cons_zero, List.set_cons_succ]
      refine take_l 18 (v := ?_) rfl (by kernel_rfl) (by kernel_rfl) (by kernel_rfl) (fun _ _ _ h => h) (Or.inl ⟨by rfl, ?_⟩) hHeld ?_
      rotate_left
      · (intro w hSw; (try dsimp only at hSw); go_simp; (try with_reducible rfl))
      simp only [Act.put, List.setIfInBounds_toArray, List.set_cons_zero, List.set_cons_succ]
      refine take_l 19 (v := ?_) rfl (by kernel_rfl) (by kernel_rfl) (by kernel_rfl) (fun _ _ _ h => h) (Or.inl ⟨by rfl, ?_⟩) hHeld ?_
      rotate_left
      · (intro w hSw; (try dsimp only at hSw); go_simp; (try with_reducible rfl))
      simp only [Act.put, List.setIfInBounds_toArray, List.set_cons_zero, List.set_cons_succ]
      refine take_l 20 (v := ?_) rfl (by kernel_rfl) (by kernel_rfl) (by kernel_rfl) (fun _ _ _ h => h) (Or.inl ⟨by rfl, ?_⟩) hHeld ?_
      rotate_left
      · (intro w hSw; (try dsimp only at hSw); go_simp; (try with_reducible rfl))
      simp only [Act.put, List.setIfInBounds_toArray, List.set_cons_zero, List.set_cons_succ]
      refine take_l 21 (v := ?_) rfl (by kernel_rfl) (by kernel_rfl) (by kernel_rfl) (fun _ _ _ h => h) (Or.inl ⟨by rfl, ?_⟩) hHeld ?_
      rotate_left
      · (intro w hSw; (try dsimp only at hSw); go_simp; (try with_reducible rfl))
      simp only [Act.put, List.setIfInBounds_toArray, List.set_cons_zero, List.set_cons_succ]
      refine take_l 22 (v := ?_) rfl (by kernel_rfl) (by kernel_rfl) (by kernel_rfl) (fun _ _ _ h => h) (Or.inl ⟨by rfl, ?_⟩) hHeld ?_
      rotate_left
      · (intro w hSw; (try dsimp only at hSw); go_simp; (try with_reducible rfl))
      simp only [Act.put, List.setIfInBounds_toArray, List.set_cons_zero, List.set_cons_succ]
      refine take_l 23 (v := ?_) rfl (by kernel_rfl) (by kernel_rfl) (by kernel_rfl) (fun _ _ _ h => h) (Or.inl ⟨by rfl, ?_⟩) hHeld ?_
      rotate_left
      · (intro w hSw; (try dsimp only at hSw); go_simp; (try with_reducible rfl))
      simp only [Act.put, List.setIfInBounds_toArray, List.set_cons_zero, List.set_cons_succ]
      refine take_l 24 (v := ?_) rfl (by kernel_rfl) (by kernel_rfl) (by kernel_rfl) (fun _ _ _ h => h) (Or.inl ⟨by rfl, ?_⟩) hHeld ?_
      rotate_left
      · (intro w hSw; (try dsimp only at hSw); go_simp; (try with_reducible rfl))
      simp only [Act.put, List.setIfInBounds_toArray, List.set_cons_zero, List.set_cons_succ]
      refine take_l 27 (v := ?_) rfl (by kernel_rfl) (by kernel_rfl) (by kernel_rfl) (fun _ _ _ h => h) (Or.inl ⟨by rfl, ?_⟩) hHeld ?_
      rotate_left
      · (intro w hSw; (try dsimp only at hSw); go_simp; (try with_reducible rfl))
      simp only [Act.put, List.setIfInBounds_toArray, List.set_cons_zero, List.set_cons_succ]
      refine take_l 28 (v := ?_) rfl (by kernel_rfl) (by kernel_rfl) (by kernel_rfl) (fun _ _ _ h => h) (Or.inl ⟨by rfl, ?_⟩) hHeld ?_
      rotate_left
      · (intro w hSw; (try dsimp only at hSw); go_simp; (try with_reducible rfl))
      simp only [Act.put, List.setIfInBounds_toArray, List.set_cons_zero, List.set_cons_succ]
      refine take_l 29 (v := ?_) rfl (by kernel_rfl) (by kernel_rfl) (by kernel_rfl) (fun _ _ _ h => h) (Or.inl ⟨by rfl, ?_⟩) hHeld ?_
      rotate_left
      · (intro w hSw; (try dsimp only at hSw); go_simp; (try with_reducible rfl))
      simp only [Act.put, List.setIfInBounds_toArray, List.set_cons_zero, List.set_cons_succ]
      refine take_l 30 (v := ?_) rfl (by kernel_rfl) (by kernel_rfl) (by kernel_rfl) (fun _ _ _ h => h) (Or.inl ⟨by rfl, ?_⟩) hHeld ?_
      rotate_left
      · (intro w hSw; (try dsimp only at hSw); go_simp; (try with_reducible rfl))
      simp only [Act.put, List.setIfInBounds_toArray, List.set_cons_zero, List.set_cons_succ]
      refine take_l 31 (v := ?_) rfl (by kernel_rfl) (by kernel_rfl) (by kernel_rfl) (fun _ _ _ h => h) (Or.inl ⟨by rfl, ?_⟩) hHeld ?_
      rotate_left
      · (intro w hSw; (try dsimp only at hSw); go_simp; (try with_reducible rfl))
      simp only [Act.put, List.setIfInBounds_toArray, List.set_cons_zero, List.set_cons_succ]
      refine wpAnyH_ready (rs := [25]) (by kernel_rfl) (by simp) ?_
      refine AllReadyH.cons rfl (fun K hK => ?_) AllReadyH.nil
      go_simp
      go_wp2_with fail
      refine (unhide HRD W FW).mono ?_
      clear HRD
      rintro e w3 ⟨gr, rfl, mm⟩
      have f3 : Still W w3 := Fr.ofBelow mm.bel
      have hS3 : (fun w' => w'.cell? ⟨bl, 0, none⟩ = some (.slice (some ⟨xb, xo, none⟩) nl cp) ∧ w'.cell? ⟨bs, 0, none⟩ = some (ptr sb) ∧ w'.cell? ⟨bh, 0, none⟩ = some (ptr hb) ∧ w'.cell? ⟨bo, 0, none⟩ = some (.bool true) ∧ w'.cell? ⟨pg, 0, none⟩ = some (.int .i64 p0) ∧ w'.cell? ⟨xb, xo + m * 3, none⟩ = some (.int .i64 p0) ∧ w'.cell? ⟨xb, xo + m * 3 + 1, none⟩ = some (.int .i64 rk) ∧ w'.cell? ⟨xb, xo + m * 3 + 2, none⟩ = some (.string dt)) w3 := ⟨f3.cell' hHeld.1 (fun x => x), f3.cell' hHeld.2.1 (fun x => x), f3.cell' hHeld.2.2.1 (fun x => x), f3.cell' hHeld.2.2.2.1 (fun x => x), f3.cell' hHeld.2.2.2.2.1 (fun x => x), f3.cell' hHeld.2.2.2.2.2.1 (fun x => x), f3.cell' hHeld.2.2.2.2.2.2.1 (fun x => x), f3.cell' hHeld.2.2.2.2.2.2.2 (fun x => x)⟩
      have cv := conv_str w3 (some ⟨gr, 0, none⟩) r.n r.n r.bt mm.nats
      rw [(unhide HDT).2] at cv
      have F3 : Fr (fun k => k = bn ∨ k = bo) wq w3 := FW.trans (f3.mono (G := fun k => k = bn ∨ k = bo) (fun _ hk => hk.elim))
      refine hK.out _ _ hS3 (fun _ => ?_)
      clear hK K mm hHeld
      refine wpAnyH_ready (rs := [26]) (by kernel_rfl) (by simp) ?_
      refine AllReadyH.cons rfl (fun K hK => ?_) AllReadyH.nil
      go_simp
      refine hK.out _ _ hS3 (fun _ => ?_)
      clear hK K cv
      refine take_l 32 (v := ?_) rfl (by kernel_rfl) (by kernel_rfl) (by kernel_rfl) (fun _ _ _ h => h) (Or.inl ⟨by rfl, ?_⟩) hS3 ?_
      rotate_left
      · (intro w hSw; (try dsimp only at hSw); go_simp; (try with_reducible rfl))
      simp only [Act.put, List.setIfInBounds_toArray, List.set_cons_zero, List.set_cons_succ]
      refine take_l 33 (v := ?_) rfl (by kernel_rfl) (by kernel_rfl) (by kernel_rfl) (fun _ _ _ h => h) (Or.inl ⟨by rfl, ?_⟩) hS3 ?_
      rotate_left
      · (intro w hSw; (try dsimp only at hSw); go_simp; (try with_reducible rfl))
      simp only [Act.put, List.setIfInBounds_toArray, List.set_cons_zero, List.set_cons_succ]
      refine take_l 34 (v := ?_) rfl (by kernel_rfl) (by kernel_rfl) (by kernel_rfl) (fun _ _ _ h => h) (Or.inl ⟨by rfl, ?_⟩) hS3 ?_
      rotate_left
      · (intro w hSw; (try dsimp only at hSw); go_simp; (try with_reducible rfl))
      simp only [Act.put, List.setIfInBounds_toArray, List.set_cons_zero, List.set_cons_succ]
      refine take_l 35 (v := ?_) rfl (by kernel_rfl) (by kernel_rfl) (by kernel_rfl) (fun _ _ _ h => h) (Or.inl ⟨by rfl, ?_⟩) hS3 ?_
      rotate_left
      · (intro w hSw; (try dsimp only at hSw); go_simp; (try with_reducible rfl))
      simp only [Act.put, List.setIfInBounds_toArray, List.set_cons_zero, List.set_cons_succ]
      refine take_l 36 (v := ?_) rfl (by kernel_rfl) (by kernel_rfl) (by kernel_rfl) (fun _ _ _ h => h) (Or.inl ⟨by rfl, ?_⟩) hS3 ?_
      rotate_left
      · (intro w hSw; (try dsimp only at hSw); go_simp; (try with_reducible rfl))
      simp only [Act.put, List.setIfInBounds_toArray, List.set_cons_zero, List.set_cons_succ]
      refine take_l 37 (v := ?_) rfl (by kernel_rfl) (by kernel_rfl) (by kernel_rfl) (fun _ _ _ h => h) (Or.inl ⟨by rfl, ?_⟩) hS3 ?_
      rotate_left
      · (intro w hSw; (try dsimp only at hSw); go_simp; (try with_reducible rfl))
      simp only [Act.put, List.setIfInBounds_toArray, List.set_cons_zero, List.set_cons_succ]
      refine take_l 38 (v := ?_) rfl (by kernel_rfl) (by kernel_rfl) (by kernel_rfl) (fun _ _ _ h => h) (Or.inl ⟨by rfl, ?_⟩) hS3 ?_
      rotate_left
      · (intro w hSw; (try dsimp only at hSw); go_simp; (try with_reducible rfl))
      simp only [Act.put, List.setIfInBounds_toArray, List.set_cons_zero, List.set_cons_succ]
      refine take_l 39 (v := ?_) rfl (by kernel_rfl) (by kernel_rfl) (by kernel_rfl) (fun _ _ _ h => h) (Or.inl ⟨by rfl, ?_⟩) hS3 ?_
      rotate_left
      · (intro w hSw; (try dsimp only at hSw); go_simp; (try with_reducible rfl))
      simp only [Act.put, List.setIfInBounds_toArray, List.set_cons_zero, List.set_cons_succ]
      refine take_l 40 (v := ?_) rfl (by kernel_rfl) (by kernel_rfl) (by kernel_rfl) (fun _ _ _ h => h) (Or.inl ⟨by rfl, ?_⟩) hS3 ?_
      rotate_left
      · (intro w hSw; (try dsimp only at hSw); go_simp; (try with_reducible rfl))
      simp only [Act.put, List.setIfInBounds_toArray, List.set_cons_zero, List.set_cons_succ]
      refine take_l 42 (v := ?_) rfl (by kernel_rfl) (by kernel_rfl) (by kernel_rfl) (fun _ _ _ h => h) (Or.inl ⟨by rfl, ?_⟩) hS3 ?_
      rotate_left
      · (intro w hSw; (try dsimp only at hSw); go_simp; (try with_reducible rfl))
      simp only [Act.put, List.setIfInBounds_toArray, List.set_cons_zero, List.set_cons_succ]
      refine take_l 43 (v := ?_) rfl (by kernel_rfl) (by kernel_rfl) (by kernel_rfl) (fun _ _ _ h => h) (Or.inl ⟨by rfl, ?_⟩) hS3 ?_
      rotate_left
      · (intro w hSw; (try dsimp only at hSw); go_simp; (try with_reducible rfl))
      simp only [Act.put, List.setIfInBounds_toArray, List.set_cons_zero, List.set_cons_succ]
      refine take_l 44 (v := ?_) rfl (by kernel_rfl) (by kernel_rfl) (by kernel_rfl) (fun _ _ _ h => h) (Or.inl ⟨by rfl, ?_⟩) hS3 ?_
      rotate_left
      · (intro w hSw; (try dsimp only at hSw); go_simp; (try with_reducible rfl))
      simp only [Act.put, List.setIfInBounds_toArray, List.set_cons_zero, List.set_cons_succ]
      refine take_l 45 (v := ?_) rfl (by kernel_rfl) (by kernel_rfl) (by kernel_rfl) (fun _ _ _ h => h) (Or.inl ⟨by rfl, ?_⟩) hS3 ?_
      rotate_left
      · (intro w hSw; (try dsimp only at hSw); go_simp; (try with_reducible rfl))
      simp only [Act.put, List.setIfInBounds_toArray, List.set_cons_zero, List.set_cons_succ]
      refine take_l 46 (v := ?_) rfl (by kernel_rfl) (by kernel_rfl) (by kernel_rfl) (fun _ _ _ h => h) (Or.inl ⟨by rfl, ?_⟩) hS3 ?_
      rotate_left
      · (intro w hSw; (try dsimp only at hSw); go_simp; (try with_reducible rfl))
      simp only [Act.put, List.setIfInBounds_toArray, List.set_cons_zero, List.set_cons_succ]
      refine take_l 47 (v := ?_) rfl (by kernel_rfl) (by kernel_rfl) (by kernel_rfl) (fun _ _ _ h => h) (Or.inl ⟨by rfl, ?_⟩) hS3 ?_
      rotate_left
      · (intro w hSw; (try dsimp only at hSw); go_simp; (try with_reducible rfl))
      simp only [Act.put, List.setIfInBounds_toArray, List.set_cons_zero, List.set_cons_succ]
      refine wpAnyH_ready (rs := [41]) (by kernel_rfl) (by simp) ?_
      refine AllReadyH.cons rfl (fun K hK => ?_) AllReadyH.nil
      go_simp
      go_wp2_with fail
      refine (unhide HLN w3 F3).mono ?_
      clear HLN
      rintro e w5 ⟨rfl, f5⟩
      have hS5 : (fun w' => w'.cell? ⟨bl, 0, none⟩ = some (.slice (some ⟨xb, xo, none⟩) nl cp) ∧ w'.cell? ⟨bs, 0, none⟩ = some (ptr sb) ∧ w'.cell? ⟨bh, 0, none⟩ = some (ptr hb) ∧ w'.cell? ⟨bo, 0, none⟩ = some (.bool true) ∧ w'.cell? ⟨pg, 0, none⟩ = some (.int .i64 p0) ∧ w'.cell? ⟨xb, xo + m * 3, none⟩ = some (.int .i64 p0) ∧ w'.cell? ⟨xb, xo + m * 3 + 1, none⟩ = some (.int .i64 rk) ∧ w'.cell? ⟨xb, xo + m * 3 + 2, none⟩ = some (.string dt)) w5 := ⟨f5.cell' hS3.1 (fun x => x), f5.cell' hS3.2.1 (fun x => x), f5.cell' hS3.2.2.1 (fun x => x), f5.cell' hS3.2.2.2.1 (fun x => x), f5.cell' hS3.2.2.2.2.1 (fun x => x), f5.cell' hS3.2.2.2.2.2.1 (fun x => x), f5.cell' hS3.2.2.2.2.2.2.1 (fun x => x), f5.cell' hS3.2.2.2.2.2.2.2 (fun x => x)⟩
      have F5 : Fr (fun k => k = bn ∨ k = bo) wq w5 := F3.trans (f5.mono (G := fun k => k = bn ∨ k = bo) (fun _ hk => hk.elim))
      refine hK.out _ _ hS5 (fun _ => ?_)
      clear hK K hS3
      refine take_l 48 (v := ?_) rfl (by kernel_rfl) (by kernel_rfl) (by kernel_rfl) (fun _ _ _ h => h) (Or.inl ⟨by rfl, ?_⟩) hS5 ?_
      rotate_left
      · (intro w hSw; (try dsimp only at hSw); go_simp; (try with_reducible rfl))
      simp only [Act.put, List.setIfInBounds_toArray, List.set_cons_zero, List.set_cons_succ]
      refine take_l 49 (v := ?_) rfl (by kernel_rfl) (by kernel_rfl) (by kernel_rfl) (fun _ _ _ h => h) (Or.inl ⟨by rfl, ?_⟩) hS5 ?_
      rotate_left
      · (intro w hSw; (try dsimp only at hSw); go_simp; (try with_reducible rfl))
      simp only [Act.put, List.setIfInBounds_toArray, List.set_cons_zero, List.set_cons_succ]
      refine take_l 50 (v := ?_) rfl (by kernel_rfl) (by kernel_rfl) (by kernel_rfl) (fun _ _ _ h => h) (Or.inl ⟨by rfl, ?_⟩) hS5 ?_
      rotate_left
      · (intro w hSw; (try dsimp only at hSw); go_simp; (try with_reducible rfl))
      simp only [Act.put, List.setIfInBounds_toArray, List.set_cons_zero, List.set_cons_succ]
      refine take_l 51 (v := ?_) rfl (by kernel_rfl) (by kernel_rfl) (by kernel_rfl) (fun _ _ _ h => h) (Or.inl ⟨by rfl, ?_⟩) hS5 ?_
      rotate_left
      · (intro w hSw; (try dsimp only at hSw); go_simp; (try with_reducible rfl))
      simp only [Act.put, List.setIfInBounds_toArray, List.set_cons_zero, List.set_cons_succ]
      refine take_l 52 (v := ?_) rfl (by kernel_rfl) (by kernel_rfl) (by kernel_rfl) (fun _ _ _ h => h) (Or.inl ⟨by rfl, ?_⟩) hS5 ?_
      rotate_left
      · (intro w hSw; (try dsimp only at hSw); go_simp; (try with_reducible rfl))
      simp only [Act.put, List.setIfInBounds_toArray, List.set_cons_zero, List.set_cons_succ]
      refine take_l 53 (v := ?_) rfl (by kernel_rfl) (by kernel_rfl) (by kernel_rfl) (fun _ _ _ h => h) (Or.inl ⟨by rfl, ?_⟩) hS5 ?_
      rotate_left
      · (intro w hSw; (try dsimp only at hSw); go_simp; (try with_reducible rfl))
      simp only [Act.put, List.setIfInBounds_toArray, List.set_cons_zero, List.set_cons_succ]
      refine take_l 54 (v := ?_) rfl (by kernel_rfl) (by kernel_rfl) (by kernel_rfl) (fun _ _ _ h => h) (Or.inl ⟨by rfl, ?_⟩) hS5 ?_
      rotate_left
      · (intro w hSw; (try dsimp only at hSw); go_simp; (try with_reducible rfl))
      simp only [Act.put, List.setIfInBounds_toArray, List.set_cons_zero, List.set_cons_succ]
      refine take_l 55 (v := ?_) rfl (by kernel_rfl) (by kernel_rfl) (by kernel_rfl) (fun _ _ _ h => h) (Or.inl ⟨by rfl, ?_⟩) hS5 ?_
      rotate_left
      · (intro w hSw; (try dsimp only at hSw); go_simp; (try with_reducible rfl))
      simp only [Act.put, List.setIfInBounds_toArray, List.set_cons_zero, List.set_cons_succ]
      refine take_l 56 (v := ?_) rfl (by kernel_rfl) (by kernel_rfl) (by kernel_rfl) (fun _ _ _ h => h) (Or.inl ⟨by rfl, ?_⟩) hS5 ?_
      rotate_left
      · (intro w hSw; (try dsimp only at hSw); go_simp; (try with_reducible rfl))
      simp only [Act.put, List.setIfInBounds_toArray, List.set_cons_zero, List.set_cons_succ]
      refine take_l 58 (v := ?_) rfl (by kernel_rfl) (by kernel_rfl) (by kernel_rfl) (fun _ _ _ h => h) (Or.inl ⟨by rfl, ?_⟩) hS5 ?_
      rotate_left
      · (intro w hSw; (try dsimp only at hSw); go_simp; (try with_reducible rfl))
      simp only [Act.put, List.setIfInBounds_toArray, List.set_cons_zero, List.set_cons_succ]
      refine take_l 59 (v := ?_) rfl (by kernel_rfl) (by kernel_rfl) (by kernel_rfl) (fun _ _ _ h => h) (Or.inl ⟨by rfl, ?_⟩) hS5 ?_
      rotate_left
      · (intro w hSw; (try dsimp only at hSw); go_simp; (try with_reducible rfl))
      simp only [Act.put, List.setIfInBounds_toArray, List.set_cons_zero, List.set_cons_succ]
      refine take_l 60 (v := ?_) rfl (by kernel_rfl) (by kernel_rfl) (by kernel_rfl) (fun _ _ _ h => h) (Or.inl ⟨by rfl, ?_⟩) hS5 ?_
      rotate_left
      · (intro w hSw; (try dsimp only at hSw); go_simp; (try with_reducible rfl))
      simp only [Act.put, List.setIfInBounds_toArray, List.set_cons_zero, List.set_cons_succ]
      refine take_l 61 (v := ?_) rfl (by kernel_rfl) (by kernel_rfl) (by kernel_rfl) (fun _ _ _ h => h) (Or.inl ⟨by rfl, ?_⟩) hS5 ?_
      rotate_left
      · (intro w hSw; (try dsimp only at hSw); go_simp; (try with_reducible rfl))
      simp only [Act.put, List.setIfInBounds_toArray, List.set_cons_zero, List.set_cons_succ]
      refine take_l 62 (v := ?_) rfl (by kernel_rfl) (by kernel_rfl) (by kernel_rfl) (fun _ _ _ h => h) (Or.inl ⟨by rfl, ?_⟩) hS5 ?_
      rotate_left
      · (intro w hSw; (try dsimp only at hSw); go_simp; (try with_reducible rfl))
      simp only [Act.put, List.setIfInBounds_toArray, List.set_cons_zero, List.set_cons_succ]
      refine wpAnyH_ready (rs := [57]) (by kernel_rfl) (by simp) ?_
      refine AllReadyH.cons rfl (fun K hK => ?_) AllReadyH.nil
      go_simp
      go_wp2_with fail
      refine (unhide HHL w5 F5).mono ?_
      clear HHL
      rintro e w6 ⟨rfl, f6⟩
      have hS6 : (fun w' => w'.cell? ⟨bl, 0, none⟩ = some (.slice (some ⟨xb, xo, none⟩) nl cp) ∧ w'.cell? ⟨bs, 0, none⟩ = some (ptr sb) ∧ w'.cell? ⟨bh, 0, none⟩ = some (ptr hb) ∧ w'.cell? ⟨bo, 0, none⟩ = some (.bool true) ∧ w'.cell? ⟨pg, 0, none⟩ = some (.int .i64 p0) ∧ w'.cell? ⟨xb, xo + m * 3, none⟩ = some (.int .i64 p0) ∧ w'.cell? ⟨xb, xo + m * 3 + 1, none⟩ = some (.int .i64 rk) ∧ w'.cell? ⟨xb, xo + m * 3 + 2, none⟩ = some (.string dt)) w6 := ⟨f6.cell' hS5.1 (fun x => x), f6.cell' hS5.2.1 (fun x => x), f6.cell' hS5.2.2.1 (fun x => x), f6.cell' hS5.2.2.2.1 (fun x => x), f6.cell' hS5.2.2.2.2.1 (fun x => x), f6.cell' hS5.2.2.2.2.2.1 (fun x => x), f6.cell' hS5.2.2.2.2.2.2.1 (fun x => x), f6.cell' hS5.2.2.2.2.2.2.2 (fun x => x)⟩
      have F6 : Fr (fun k => k = bn ∨ k = bo) wq w6 := F5.trans (f6.mono (G := fun k => k = bn ∨ k = bo) (fun _ hk => hk.elim))
      refine hK.out _ _ hS6 (fun _ => ?_)
      clear hK K hS5
      refine take_l 63 (v := ?_) rfl (by kernel_rfl) (by kernel_rfl) (by kernel_rfl) (fun _ _ _ h => h) (Or.inl ⟨by rfl, ?_⟩) hS6 ?_
      rotate_left
      · (intro w hSw; (try dsimp only at hSw); go_simp; (try with_reducible rfl))
      simp only [Act.put, List.setIfInBounds_toArray, List.set_cons_zero, List.set_cons_succ]
      refine take_l 64 (v := ?_) rfl (by kernel_rfl) (by kernel_rfl) (by kernel_rfl) (fun _ _ _ h => h) (Or.inl ⟨by rfl, ?_⟩) hS6 ?_
      rotate_left
      · (intro w hSw; (try dsimp only at hSw); go_simp; (try with_reducible rfl))
      simp only [Act.put, List.setIfInBounds_toArray, List.set_cons_zero, List.set_cons_succ]
      have f46 : Still W4 w6 := ((fW.trans' f3 (fun _ x => x.elim)).trans' f5 (fun _ x => x.elim)).trans' f6 (fun _ x => x.elim)
      have B6n := (unhide H4).1.kept f46 (fun x => x)
      have B6o := (unhide H4).2.1.kept f46 (fun x => x)
      have z6 := B6o.z; have c6 := B6o.c
      have H6 := hide (And.intro B6n B6o)
      clear f46 B6n B6o
      refine wpAnyH_ready (rs := [65]) (by kernel_rfl) (by simp) ?_
      refine AllReadyH.cons rfl (fun K hK => ?_) AllReadyH.nil
      go_simp
      obtain ⟨W7, hW7⟩ : ∃ W7, w6.setCell ⟨bo, 0, none⟩ (.bool true) = W7 := ⟨_, rfl⟩
      have f7 : Fr (fun k => k = bo) w6 W7 := hW7 ▸ Fr.box w6 bo _
      have B7o : Box W7 bo (.bool true) := hW7 ▸ (unhide H6).2.set _
      have B7n := (unhide H6).1.kept f7 (show ¬ bn = bo from ne.2.2.2.2.2.2.1)
      have nfo : ∀ k, k ≠ bo → ¬ (fun k => k = bo) k := fun k h e => h e
      rw [hW7]
      have hS7 : (fun w' => w'.cell? ⟨bl, 0, none⟩ = some (.slice (some ⟨xb, xo, none⟩) nl cp) ∧ w'.cell? ⟨bs, 0, none⟩ = some (ptr sb) ∧ w'.cell? ⟨bh, 0, none⟩ = some (ptr hb) ∧ w'.cell? ⟨bo, 0, none⟩ = some (.bool true) ∧ w'.cell? ⟨pg, 0, none⟩ = some (.int .i64 p0) ∧ w'.cell? ⟨xb, xo + m * 3, none⟩ = some (.int .i64 p0) ∧ w'.cell? ⟨xb, xo + m * 3 + 1, none⟩ = some (.int .i64 rk) ∧ w'.cell? ⟨xb, xo + m * 3 + 2, none⟩ = some (.string dt)) W7 := ⟨f7.cell' hS6.1 (nfo _ ne.2.1), f7.cell' hS6.2.1 (nfo _ ne.2.2.2.1), f7.cell' hS6.2.2.1 (nfo _ ne.2.2.2.2.2.1), B7o.c, f7.cell' hS6.2.2.2.2.1 (nfo _ pgn.2), f7.cell' hS6.2.2.2.2.2.1 (nfo _ xn.2), f7.cell' hS6.2.2.2.2.2.2.1 (nfo _ xn.2), f7.cell' hS6.2.2.2.2.2.2.2 (nfo _ xn.2)⟩
      refine hK.out _ _ hS7 (fun _ => ?_)
      have HE := hide (And.intro (F6.trans (f7.mono (G := fun k => k = bn ∨ k = bo) (fun k hk => .inl (.inr hk)))) (And.intro B7n B7o))
      clear hK K hS6 hS7 hW7 f7 B7o B7n z6 c6
      refine wpAnyH_done (by kernel_rfl) ?_ _
      go_wp2
      obtain ⟨F7, B7n, B7o⟩ := unhide HE
      obtain ⟨fr, bxn, bxo, hal, hle⟩ := unhide HB
      refine ⟨⟨m + 1, by omega, by go_num, fr.trans F7, ?_, B7o⟩, by simp [intOf]; omega⟩
      rw [hal, unhide HAL, unhide HUL, show ((Al + (ul + 1) : Nat) : Int) = (Al : Int) + ((ul : Int) + 1) by omega]
      exact B7n
    · have em : m = nl := by omega
      subst em
      have hlt' : ((m : Int) < m) = False := by simp
      have HB := hide (And.intro fr (And.intro bxn bxo))
      clear fr bxn bxo hp R rl Bn Bo nt few
      go_wp2
      go_end0
      obtain ⟨fr, bxn, bxo⟩ := unhide HB
      rw [List.take_of_length_le (by rw [unhide HNL]; exact Nat.le_refl _)] at bxn
      exact ⟨rfl, fr, bxn, bxo⟩
end
end
end Go.Proofs.YtdgobaknbjlahaaGreatDoor
