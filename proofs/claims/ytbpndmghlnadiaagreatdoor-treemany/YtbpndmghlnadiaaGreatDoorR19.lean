/- Joined: Zb Ym Yo Yr Ys. -/
import Derived.Test.YtbpndmghlnadiaaGreatDoorR13
import Derived.Test.YtbpndmghlnadiaaGreatDoorR18
namespace Go.Proofs.YtbpndmghlnadiaaGreatDoor
open Go.RowKit
set_option maxHeartbeats 4000000
def kb : List ByteArray -> Nat
 | [] => 0
 | k :: K => k.size + 1 + kb K
theorem kb_app : ∀ (K L : List ByteArray), kb (K ++ L) = kb K + kb L
 | [], L => by simp [kb]
 | k :: K, L => by simp [kb, kb_app K L]; omega
def Kok (K : List ByteArray) : Prop := ∀ k ∈ K, 1 <= k.size /\ k.size <= 80
theorem Kok.left {K L : List ByteArray} (h : Kok (K ++ L)) : Kok K := fun k hk => h k (List.mem_append_left _ hk)
theorem Kok.right {K L : List ByteArray} (h : Kok (K ++ L)) : Kok L := fun k hk => h k (List.mem_append_right _ hk)
theorem Kok.app {K L : List ByteArray} (h : Kok K) (g : Kok L) : Kok (K ++ L) := fun k hk => (List.mem_append.1 hk).elim (h k) (g k)
theorem Kok.take {K : List ByteArray} (h : Kok K) (i : Nat) : Kok (K.take i) := fun k hk => h k (List.mem_of_mem_take hk)
theorem Kok.drop {K : List ByteArray} (h : Kok K) (i : Nat) : Kok (K.drop i) := fun k hk => h k (List.mem_of_mem_drop hk)
theorem kb_le : ∀ {K : List ByteArray}, Kok K -> kb K <= 81 * K.length
 | [], _ => by simp [kb]
 | k :: K, h => by
  have h1 := (h k (List.mem_cons_self ..)).2
  have h2 := kb_le (K := K) (fun x hx => h x (List.mem_cons_of_mem _ hx))
  simp [kb]; omega
theorem kb_step {K : List ByteArray} (h : Kok K) (i : Nat) (hi : i < K.length) : kb (K.take i) <= kb (K.take (i + 1)) /\ kb (K.take (i + 1)) <= kb (K.take i) + 81 := by
 have h1 := (h _ (List.getElem_mem hi)).2
 rw [<- List.take_append_getElem hi, kb_app]
 simp [kb]; omega
theorem kb_split (K : List ByteArray) (i : Nat) : kb K = kb (K.take i) + kb (K.drop i) := by rw [<- kb_app, List.take_append_drop]
theorem kL_at {K : List ByteArray} (h : Kok K) (i : Nat) (hi : i < K.length) : 1 <= kL K i /\ kL K i <= 80 := by
 have := h _ (List.getElem_mem hi)
 unfold kL
 rw [List.getD, List.getElem?_eq_getElem hi]
 exact this
theorem jk_len {K : List ByteArray} (h : Kok K) : (jk K).length = kb K := by
 have g : ∀ i, i <= K.length -> offL (kL K) i = kb (K.take i) := by
  intro i
  induction i with
  | zero => intro _; simp [offL, kb]
  | succ i ih =>
   intro hi
   have hk := kL_at h i (by omega)
   have e : kL K i = K[i].size := by
    unfold kL
    rw [List.getD, List.getElem?_eq_getElem (by omega)]
    rfl
   rw [<- List.take_append_getElem (by omega), kb_app, <- ih (by omega)]
   simp only [offL, kb, ul, e]
   rw [if_pos (by omega)]
   omega
 unfold jk
 rw [join_len _ _ _ (fun i hi => by have := kL_at h i hi; omega), g _ (Nat.le_refl _), List.take_length]
theorem jk_lt {K : List ByteArray} (h : Kok K) (t : Nat) : (jk K).getD t 0 < 256 := joinF_lt (kL K) (kZ K) K.length t (fun i hi => by have := kL_at h i hi; omega) (fun i _ t _ => byF_lt _ _)
theorem cut_leaf (n : Nat) (c : Nat -> Nat) (h0 : c 0 = 0) (hs : ∀ i, i < n -> c i <= c (i + 1) /\ c (i + 1) <= c i + 81) (ht : 33 <= hsz n (c n)) (ht2 : hsz n (c n) <= 46) : ∃ i, 1 <= i /\ i < n /\ hsz i (c i) <= 32 /\ hsz (n - i) (c n - c i) <= 32 := by
 have key : ∀ m, m <= n -> 33 <= hsz m (c m) -> ∃ i, 1 <= i /\ i < m /\ hsz i (c i) <= 32 /\ 33 <= hsz (i + 1) (c (i + 1)) := by
  intro m
  induction m with
  | zero => intro _ h; unfold hsz need at h; omega
  | succ m ih =>
   intro hm h
   by_cases hc : 33 <= hsz m (c m)
   ·obtain ⟨i, a1, a2, a3, a4⟩ := ih (by omega) hc
    exact ⟨i, a1, by omega, a3, a4⟩
   ·refine ⟨m, ?_, by omega, by omega, h⟩
    refine Nat.pos_of_ne_zero fun e => ?_
    subst e
    have := hs 0 (by omega)
    unfold hsz need at h
    omega
 have mono : ∀ i j, i <= j -> j <= n -> c i <= c j := by
  intro i j hij
  induction hij with
  | refl => intro _; exact Nat.le_refl _
  | @step m hk ih =>
   intro hj
   exact Nat.le_trans (ih (by omega)) (hs m (by omega)).1
 obtain ⟨i, a1, a2, a3, a4⟩ := key n (Nat.le_refl _) ht
 refine ⟨i, a1, a2, a3, ?_⟩
 have := hs i a2
 have := mono i n (by omega) (Nat.le_refl _)
 unfold hsz need at *
 omega
theorem cut_branch (n : Nat) (c : Nat -> Nat) (h0 : c 0 = 0) (hs : ∀ i, i + 1 < n -> c i <= c (i + 1) /\ c (i + 1) <= c i + 81) (ht : 33 <= hsz n (c (n - 1))) (ht2 : hsz n (c (n - 1)) <= 46) : ∃ i, 2 <= i /\ i + 2 <= n /\ hsz i (c (i - 1)) <= 32 /\ hsz (n - i) (c (n - 1) - c i) <= 32 := by
 have mono : ∀ i j, i <= j -> j + 1 <= n -> c i <= c j := by
  intro i j hij
  induction hij with
  | refl => intro _; exact Nat.le_refl _
  | @step m hk ih =>
   intro hj
   exact Nat.le_trans (ih (by omega)) (hs m (by omega)).1
 have grow : ∀ j, j + 1 <= n -> c j <= 81 * j := by
  intro j
  induction j with
  | zero => intro _; omega
  | succ j ih =>
   intro hj
   have := (hs j (by omega)).2
   have := ih (by omega)
   omega
 have hn : 4 <= n := by
  refine Nat.le_of_not_lt fun hlt => ?_
  by_cases h : n = 0
  ·subst h
   unfold hsz need at ht
   simp [h0] at ht
  ·have := grow (n - 1) (by omega)
   unfold hsz need at ht
   omega
 have key : ∀ m, 2 <= m -> m + 2 <= n -> hsz m (c (m - 1)) <= 32 \/ ∃ i, 2 <= i /\ i + 2 <= n /\ hsz i (c (i - 1)) <= 32 /\ 33 <= hsz (i + 1) (c i) := by
  intro m h2
  induction h2 with
  | refl =>
   intro _
   refine .inl ?_
   have := grow 1 (by omega)
   unfold hsz need
   simp
   omega
  | @step m hm ih =>
   intro hle
   rcases ih (by omega) with h | h
   ·by_cases hc : hsz (m + 1) (c m) <= 32
    ·exact .inl hc
    ·have : 2 <= m := hm
     exact .inr ⟨m, hm, by omega, h, by omega⟩
   ·exact .inr h
 rcases key (n - 2) (by omega) (by omega) with h | ⟨i, a1, a2, a3, a4⟩
 ·refine ⟨n - 2, by omega, by omega, h, ?_⟩
  have := hs (n - 2) (by omega)
  rw [show n - 2 + 1 = n - 1 by omega] at this
  unfold hsz need
  omega
 ·refine ⟨i, a1, a2, a3, ?_⟩
  have h1 := hs (i - 1) (by omega)
  rw [show i - 1 + 1 = i by omega] at h1
  have := mono i (n - 1) (by omega) (by omega)
  unfold hsz need at *
  omega
structure Nd where
 val : List Pr ⊕ (Nat × List ByteArray × List (Nat × Nat))
abbrev Nd.lf (l : List Pr) : Nd := ⟨.inl l⟩
abbrev Nd.br (h : Nat) (B : List ByteArray) (ks : List (Nat × Nat)) : Nd := ⟨.inr (h, B, ks)⟩
theorem Nd.cs {motive : Nd -> Prop} (n : Nd) (lf : ∀ l, motive (Nd.lf l)) (br : ∀ h B ks, motive (Nd.br h B ks)) : motive n := by
 obtain ⟨l | ⟨h, B, ks⟩⟩ := n
 ·exact lf l
 ·exact br h B ks
def Nd.high : Nd -> Nat
 | ⟨.inl _⟩ => 1
 | ⟨.inr (h, _, _)⟩ => h
def Nd.keys : Nd -> List ByteArray
 | ⟨.inl l⟩ => l.map (·.1)
 | ⟨.inr (_, B, _)⟩ => B
def Nd.items : Nd -> List Nat
 | ⟨.inl l⟩ => l.map (·.2)
 | ⟨.inr (_, _, ks)⟩ => ks.map fun k => itN k.1 k.2
def Nd.pairs : Nd -> Nat
 | ⟨.inl l⟩ => l.length
 | ⟨.inr (_, _, ks)⟩ => (ks.map (·.2)).sum
def Nd.size (n : Nd) : Nat := hsz n.items.length (kb n.keys)
def Nd.wds (n : Nd) : List Nat := hwN n.high n.items.length (kb n.keys) :: (n.items ++ pkW (jk n.keys))
theorem Nd.wds_len (n : Nd) (h : Kok n.keys) : n.wds.length = n.size := by
 unfold Nd.wds Nd.size hsz
 rw [List.length_cons, List.length_append, pkW_len, jk_len h]
 unfold need
 omega
def Nd.Form : Nd -> Prop
 | ⟨.inl l⟩ => l ≠ []
 | ⟨.inr (h, B, ks)⟩ => 2 <= h /\ ks.length = B.length + 1 /\ 2 <= ks.length /\ ∀ k ∈ ks, k.1 < 4294967296 /\ k.2 < 2147483648
theorem Nd.size_pos (n : Nd) : 1 <= n.size := by unfold Nd.size hsz need; omega
theorem Nd.klen {n : Nd} (h : n.Form) : n.keys.length <= n.items.length := by
 cases n using Nd.cs with
 | lf l => simp [Nd.keys, Nd.items]
 | br hh B ks =>
  have := h.2.1
  simp [Nd.keys, Nd.items]
  omega
structure Nd.Ok (n : Nd) : Prop where
 kok : Kok n.keys
 rise : n.keys.Pairwise ltK
 h1 : 1 <= n.high
 h16 : n.high <= 16
 u64 : ∀ x ∈ n.items, x < 18446744073709551616
 form : n.Form
def Sam (nu : Nat) (f g : Nat -> Int) (v : Nat) : Prop := ask nu g v = ask nu f v /\ ∀ i, i < ask nu f v -> g (fi nu + 8 * v + i) = f (fi nu + 8 * v + i)
structure Std (nu sz : Nat) (f : Nat -> Int) (u : Nat) (n : Nd) : Prop where
 ak : ask nu f u = n.size
 le : n.size <= 32
 fit : fi nu + 8 * u + n.size <= sz
 wd : ∀ i x, n.wds[i]? = some x -> f (fi nu + 8 * u + i) = (x : Nat)
 ok : n.Ok
theorem Std.same {nu sz : Nat} {f g : Nat -> Int} {u : Nat} {n : Nd} (h : Std nu sz f u n) (s : Sam nu f g u) : Std nu sz g u n :=
 ⟨s.1.trans h.ak, h.le, h.fit, fun i x hx => by
  rw [s.2 i (by rw [h.ak, <- n.wds_len h.ok.kok]; exact (List.getElem?_eq_some_iff.1 hx).1)]
  exact h.wd i x hx, h.ok⟩
def For (T : Nat -> List Pr -> List Nat -> Prop) (B : List ByteArray) (ks : List (Nat × List Pr × List Nat)) (l : List Pr) (Q : List Nat) : Prop :=
 (∀ k ∈ ks, T k.1 k.2.1 k.2.2) /\ l = (ks.map (·.2.1)).flatten /\ Q = (ks.map (·.2.2)).flatten /\ Sep B (ks.map (·.2.1)) /\ Kok B
def kidN (nu : Nat) (k : Nat × List Pr × List Nat) : Nat × Nat := (fi nu + 8 * k.1, k.2.1.length)
def Un (nu : Nat) (T : Nat -> List Pr -> List Nat -> Prop) (h : Nat) (n : Nd) (l : List Pr) (Q : List Nat) : Prop :=
 (h = 1 /\ n = .lf l /\ l ≠ [] /\ Q = []) \/ (2 <= h /\ ∃ (B : List ByteArray) (ks : List (Nat × List Pr × List Nat)), n = .br h B (ks.map (kidN nu)) /\ For T B ks l Q)
def Tr (nu sz : Nat) (f : Nat -> Int) : Nat -> Nat -> List Pr -> List Nat -> Prop
 | 0, _, _, _ => False
 | h + 1, u, l, Q => ∃ n Q', Std nu sz f u n /\ Un nu (Tr nu sz f h) (h + 1) n l Q' /\ Q = u :: Q'
theorem Un.mono {nu h : Nat} {T T' : Nat -> List Pr -> List Nat -> Prop} {n : Nd} {l : List Pr} {Q : List Nat} (x : Un nu T h n l Q) (hT : ∀ u m R, T u m R -> (∀ v ∈ R, v ∈ Q) -> T' u m R) : Un nu T' h n l Q := by
 rcases x with x | ⟨h2, B, ks, e1, e2, e3, e4, e5, e6⟩
 ·exact .inl x
 ·exact .inr ⟨h2, B, ks, e1, fun k hk => hT _ _ _ (e2 k hk) (fun v hv => by
   rw [e4]
   exact List.mem_flatten.2 ⟨k.2.2, List.mem_map.2 ⟨k, hk, rfl⟩, hv⟩), e3, e4, e5, e6⟩
theorem Tr.same {nu sz : Nat} {f g : Nat -> Int} : ∀ {h u : Nat} {l : List Pr} {Q : List Nat}, Tr nu sz f h u l Q -> (∀ v ∈ Q, Sam nu f g v) -> Tr nu sz g h u l Q
 | 0, _, _, _, x, _ => x.elim
 | h + 1, u, l, Q, ⟨n, Q', s, x, e⟩, hs => ⟨n, Q', s.same (hs u (by rw [e]; exact List.mem_cons_self ..)), x.mono (fun u m R t hR => t.same fun v hv => hs v (by rw [e]; exact List.mem_cons_of_mem _ (hR v hv))), e⟩
theorem Un.ne {nu h : Nat} {T : Nat -> List Pr -> List Nat -> Prop} {n : Nd} {l : List Pr} {Q : List Nat} (x : Un nu T h n l Q) : l ≠ [] := by
 rcases x with x | ⟨h2, B, ks, e1, e2, e3, e4, e5, e6⟩
 ·exact x.2.2.1
 ·obtain ⟨p, m, M', e, hp⟩ := e5.some
  rw [e3, e]
  intro hh
  have : p ∈ (m :: M').flatten := by rw [List.flatten_cons]; exact List.mem_append_left _ hp
  rw [hh] at this
  cases this
theorem Tr.ne {nu sz : Nat} {f : Nat -> Int} {h u : Nat} {l : List Pr} {Q : List Nat} (x : Tr nu sz f h u l Q) : l ≠ [] := by
 cases h with
 | zero => exact x.elim
 | succ h =>
  obtain ⟨n, Q', s, x, e⟩ := x
  exact x.ne
theorem sum_ge {α : Type} (g : α -> Nat) (c : Nat) : ∀ (L : List α), (∀ a ∈ L, c <= g a) -> c * L.length <= (L.map g).sum
 | [], _ => by simp
 | a :: L, h => by
  have h1 := h a (List.mem_cons_self ..)
  have h2 := sum_ge g c L (fun x hx => h x (List.mem_cons_of_mem _ hx))
  simp [Nat.mul_add]; omega
theorem Tr.pow {nu sz : Nat} {f : Nat -> Int} : ∀ {h u : Nat} {l : List Pr} {Q : List Nat}, Tr nu sz f (h + 1) u l Q -> 2 ^ h <= l.length
 | 0, u, l, Q, x => by
  exact List.length_pos_iff.2 x.ne
 | h + 1, u, l, Q, ⟨n, Q', s, x, e⟩ => by
  rcases x with x | ⟨h2, B, ks, e1, e2, e3, e4, e5, e6⟩
  ·omega
  ·have hk : 2 <= ks.length := by
    have := s.ok.form
    rw [e1] at this
    simpa using this.2.2.1
   rw [e3, List.length_flatten, List.map_map]
   have := sum_ge (fun k : Nat × List Pr × List Nat => k.2.1.length) (2 ^ h) ks (fun k hk => (e2 k hk).pow)
   have h3 : 2 ^ h * 2 <= 2 ^ h * ks.length := Nat.mul_le_mul_left _ hk
   rw [Nat.pow_succ]
   exact Nat.le_trans h3 this
theorem sum_le2 {α : Type} (g m : α -> Nat) : ∀ (L : List α), (∀ a ∈ L, g a + 1 <= 2 * m a) -> (L.map g).sum + L.length <= 2 * (L.map m).sum
 | [], _ => by simp
 | a :: L, h => by
  have h1 := h a (List.mem_cons_self ..)
  have h2 := sum_le2 g m L (fun x hx => h x (List.mem_cons_of_mem _ hx))
  simp; omega
theorem Tr.few {nu sz : Nat} {f : Nat -> Int} : ∀ {h u : Nat} {l : List Pr} {Q : List Nat}, Tr nu sz f h u l Q -> Q.length + 1 <= 2 * l.length
 | 0, _, _, _, x => x.elim
 | h + 1, u, l, Q, ⟨n, Q', s, x, e⟩ => by
  rcases x with ⟨_, _, x, rfl⟩ | ⟨h2, B, ks, e1, e2, e3, e4, e5, e6⟩
  ·have := List.length_pos_iff.2 x
   rw [e]; simp; omega
  ·have hk : 2 <= ks.length := by
    have := s.ok.form
    rw [e1] at this
    simpa using this.2.2.1
   have := sum_le2 (fun k : Nat × List Pr × List Nat => k.2.2.length) (fun k => k.2.1.length) ks (fun k hk => (e2 k hk).few)
   rw [e, List.length_cons, e4, e3, List.length_flatten, List.length_flatten, List.map_map, List.map_map]
   simp only [Function.comp_def]
   omega
def kcl : List (Nat × Nat) -> List Value
 | [] => []
 | k :: l => .int .u64 (k.1 : Nat) :: .int .i64 (k.2 : Nat) :: kcl l
theorem kcl_len : ∀ l : List (Nat × Nat), (kcl l).length = l.length * 2
 | [] => rfl
 | _ :: l => by simp [kcl, kcl_len l]; omega
theorem kcl_app : ∀ (l m : List (Nat × Nat)), kcl (l ++ m) = kcl l ++ kcl m
 | [], _ => rfl
 | p :: l, m => by simp [kcl, kcl_app l m]
theorem kcl_one : ∀ {l : List (Nat × Nat)}, ∀ u ∈ kcl l, u.oneCell' = true
 | [], u, h => by cases h
 | p :: l, u, h => by
  rcases List.mem_cons.1 h with rfl | h
  ·rfl
  ·rcases List.mem_cons.1 h with rfl | h
   ·rfl
   ·exact kcl_one u h
theorem kcl_at : ∀ {l : List (Nat × Nat)} {k : Nat} {p : Nat × Nat}, l[k]? = some p -> (kcl l)[k * 2]? = some (.int .u64 (p.1 : Nat)) /\ (kcl l)[k * 2 + 1]? = some (.int .i64 (p.2 : Nat))
 | [], _, _, h => by simp at h
 | q :: l, 0, p, h => by
  cases (Option.some.inj h : q = p)
  exact ⟨rfl, rfl⟩
 | q :: l, k + 1, p, h => by
  have := kcl_at (l := l) (k := k) (p := p) (by simpa using h)
  rw [show (k + 1) * 2 = k * 2 + 1 + 1 by omega]
  exact this
theorem kcl_take : ∀ (l : List (Nat × Nat)) (k : Nat), (kcl l).take (k * 2) = kcl (l.take k)
 | [], k => by simp [kcl]
 | p :: l, 0 => by simp [kcl]
 | p :: l, k + 1 => by
  rw [show (k + 1) * 2 = k * 2 + 1 + 1 by omega]
  simp [kcl, kcl_take l k]
theorem kcl_drop : ∀ (l : List (Nat × Nat)) (k : Nat), (kcl l).drop (k * 2) = kcl (l.drop k)
 | [], k => by simp [kcl]
 | p :: l, 0 => by simp
 | p :: l, k + 1 => by
  rw [show (k + 1) * 2 = k * 2 + 1 + 1 by omega]
  simp [kcl, kcl_drop l k]
abbrev Kds (w : World) (a : Option Addr) (c : Nat) (l : List (Nat × Nat)) : Prop := Sl w 2 a l.length c (kcl l)
abbrev Kys (w : World) (a : Option Addr) (c : Nat) (l : List ByteArray) : Prop := Sl w 1 a l.length c (l.map Value.string)
theorem str_one (l : List ByteArray) : ∀ u ∈ l.map Value.string, u.oneCell' = true := fun u hu => by
 obtain ⟨t, _, rfl⟩ := List.mem_map.1 hu
 rfl
theorem Sl.kid {w : World} {a : Option Addr} {c k : Nat} {l : List (Nat × Nat)} {p : Nat × Nat} (h : Kds w a c l) (hp : l[k]? = some p) : ∃ b o, a = some ⟨b, o, none⟩ /\ w.cell? ⟨b, o + k * 2, none⟩ = some (.int .u64 (p.1 : Nat)) /\ w.cell? ⟨b, o + k * 2 + 1, none⟩ = some (.int .i64 (p.2 : Nat)) := by
 obtain ⟨h1, h2⟩ := kcl_at hp
 obtain ⟨b, o, e, c1⟩ := h.cells _ _ h1
 obtain ⟨b', o', e', c2⟩ := h.cells _ _ h2
 rw [e] at e'
 cases e'
 exact ⟨b, o, e, c1, by rw [<- Nat.add_assoc] at c2; exact c2⟩
abbrev brV (h : Nat) (ba : Option Addr) (bn bc : Nat) (ka : Option Addr) (kn kc : Nat) : Value := .agg #[.int .i64 h, .slice ba bn bc, .slice ka kn kc]
def NdO (F : Nat -> Prop) (w : World) (v : Value) : Nd -> Prop
 | ⟨.inl l⟩ => ∃ a c, v = .iface 96 (.slice a l.length c) /\ Lf w a c l /\ ∀ x, a = some x -> F x.block
 | ⟨.inr (h, B, ks)⟩ => ∃ ba bc ka kc, v = .iface 92 (brV h ba B.length bc ka ks.length kc) /\ Kys w ba bc B /\ Kds w ka kc ks /\ (∀ x, ba = some x -> F x.block) /\ ∀ x, ka = some x -> F x.block
theorem Sl.same {w w' : World} {sz n c : Nat} {a : Option Addr} {xs : List Value} (h : Sl w sz a n c xs) (hn : ∀ x, a = some x -> w'.heap[x.block]? = w.heap[x.block]?) : Sl w' sz a n c xs :=
 ⟨h.len, h.cap, h.nil, h.one, fun j u hu => by
  obtain ⟨b, o, e, c1⟩ := h.cells j u hu
  exact ⟨b, o, e, (show w'.cell? ⟨b, o + j, none⟩ = w.cell? ⟨b, o + j, none⟩ from World.cell?_of_block (hn ⟨b, o, none⟩ e)).trans c1⟩, h.flat⟩
theorem NdO.kept {F G : Nat -> Prop} {w w' : World} {v : Value} {n : Nd} (h : NdO F w v n) (f : ∀ k, F k -> w'.heap[k]? = w.heap[k]? /\ G k) : NdO G w' v n := by
 cases n using Nd.cs with
 | lf l =>
  obtain ⟨a, c, e, h, hf⟩ := h
  exact ⟨a, c, e, h.same fun x hx => (f _ (hf x hx)).1, fun x hx => (f _ (hf x hx)).2⟩
 | br h B ks =>
  obtain ⟨ba, bc, ka, kc, e, h1, h2, g1, g2⟩ := h
  exact ⟨ba, bc, ka, kc, e, h1.same fun x hx => (f _ (g1 x hx)).1, h2.same fun x hx => (f _ (g2 x hx)).1, fun x hx => (f _ (g1 x hx)).2, fun x hx => (f _ (g2 x hx)).2⟩
theorem NdO.mono {F G : Nat -> Prop} {w : World} {v : Value} {n : Nd} (h : NdO F w v n) (f : ∀ k, F k -> G k) : NdO G w v n := h.kept fun k hk => ⟨rfl, f k hk⟩
theorem own_block {w : World} {lo sz n c : Nat} {t : TypeId} {a : Option Addr} {xs : List Value} (h : w.ownsRow lo t sz (.slice a n c) n xs) : ∀ x, a = some x -> lo <= x.block /\ x.block < w.heap.size := fun x hx => h.lt x.block (by rw [hx]; rfl)

section
theorem l_pairs (a : Option Addr) (n c : Nat) (w : World) : Calls Tryz.prog 227 #[.slice a n c] w fun e w' => e = .returned (.int .i64 n) /\ w' = w := by
 go_enter Tryz.func227, Tryz.ntmps227
 go_wp2
 go_ret
 exact ⟨rfl, rfl⟩
theorem l_least (a : Option Addr) (n c : Nat) (w : World) : Calls Tryz.prog 226 #[.slice a n c] w fun e w' => e = .returned (.int .i64 1) /\ w' = w := by
 go_enter Tryz.func226, Tryz.ntmps226
 go_wp2
 go_ret
 exact ⟨rfl, rfl⟩
section
variable (h : Nat) (ba : Option Addr) (bn bc : Nat) (ka : Option Addr) (kn kc : Nat)
theorem b_least (w : World) : Calls Tryz.prog 220 #[brV h ba bn bc ka kn kc] w fun e w' => e = .returned (.int .i64 2) /\ St w w' := by
 go_enter Tryz.func220, Tryz.ntmps220
 go_wp2
 go_ret
 exact ⟨rfl, by first | exact Fr.refl _ _ | exact (Fr.refl _ w).alloc _⟩
theorem b_height (w : World) : Calls Tryz.prog 217 #[brV h ba bn bc ka kn kc] w fun e w' => e = .returned (.int .i64 h) /\ St w w' := by
 go_enter Tryz.func217, Tryz.ntmps217
 go_wp2
 go_ret
 exact ⟨rfl, (Fr.refl _ w).alloc _⟩
theorem b_keys (w : World) : Calls Tryz.prog 219 #[brV h ba bn bc ka kn kc] w fun e w' => e = .returned (.slice ba bn bc) /\ St w w' := by
 go_enter Tryz.func219, Tryz.ntmps219
 go_wp2
 go_ret
 exact ⟨rfl, (Fr.refl _ w).alloc _⟩
end
theorem it_or (a p : Nat) (ha : a < 4294967296) (hp : p < 2147483648) : IntKind.u64.wrap (p : Int) = p /\ IntKind.u64.wrap ((p : Int) * 4294967296) = (p : Int) * 4294967296 /\ bits .or .u64 ((p : Int) * 4294967296) (a : Int) = (itN a p : Nat) := by
 refine ⟨by rw [IntKind.wrap_u64]; omega, by rw [IntKind.wrap_u64]; omega, ?_⟩
 rw [show (p : Int) * 4294967296 = ((p * 4294967296 : Nat) : Int) by omega, u64_or_nat _ _ (by omega) (by omega)]
 unfold itN
 congr 1
 rw [show p * 4294967296 = p <<< 32 by rw [Nat.shiftLeft_eq], Nat.shiftLeft_add_eq_or_of_lt ha]
set_option maxRecDepth 100000 in
theorem b_items (h : Nat) (ba : Option Addr) (bn bc : Nat) (ka : Option Addr) (kc : Nat) (ks : List (Nat × Nat)) (w : World) (hK : Kds w ka kc ks) (hl : ks.length <= 500) (hk : ∀ k ∈ ks, k.1 < 4294967296 /\ k.2 < 2147483648) :
  Calls Tryz.prog 218 #[brV h ba bn bc ka ks.length kc] w fun e w' => ∃ v, e = .returned v /\ w'.ownsRow w.heap.size 27 1 v ks.length (vals .u64 (ks.map fun k => itN k.1 k.2)) /\ St w w' := by
 obtain ⟨W, hW⟩ : ∃ W, w.alloc (.cells #[.int .i64 h, .slice ba bn bc, .slice ka ks.length kc] 92) = W := ⟨_, rfl⟩
 have fW : St w W := hW ▸ (Fr.refl _ w).alloc _
 have HW := Hd hW
 clear hW
 go_enter Tryz.func218, Tryz.ntmps218
 go_wp2_with fail
 rw [uh HW]
 clear HW
 go_loopw [3, 9] (fun v i wr => ∃ r : Nat, r <= ks.length /\ i = .int .i64 r /\ wr.ownsRow w.heap.size 27 1 v r (vals .u64 ((ks.take r).map fun k => itN k.1 k.2)) /\ St w wr) (fun _ i _ => ks.length - (RowKit.intOf i).toNat)
 case atStart => exact ⟨0, by omega, rfl, World.ownsRow_nil _ _ _ _, fW⟩
 case round =>
  obtain ⟨r, hrn, rfl, hrow, fr⟩ := hrel
  by_cases hlt : r < ks.length
  ·obtain ⟨p, hp⟩ : ∃ p, ks[r]? = some p := ⟨_, List.getElem?_eq_getElem hlt⟩
   obtain ⟨b, o, rfl, c1, c2⟩ := hK.kid hp
   obtain ⟨k1, k2⟩ := hk p (List.mem_of_getElem? hp)
   obtain ⟨i1, i2, i3⟩ := it_or p.1 p.2 k1 k2
   replace c1 := fr.cell' c1 id
   replace c2 := fr.cell' c2 id
   have hlt' : (r : Int) < ks.length := by omega
   obtain ⟨W1, hW1⟩ : ∃ W1, wr.alloc (.cells #[.int .u64 (p.1 : Nat), .int .i64 (p.2 : Nat)] 131) = W1 := ⟨_, rfl⟩
   have f1 : St wr W1 := hW1 ▸ (Fr.refl _ wr).alloc _
   obtain ⟨v', w2, hap, hw2, f2, hloc⟩ := run_val infoU rfl (by decide) Tryz.underlying128 W1 w.heap.size _ r _ (own_still hrow f1) (.int .u64 (itN p.1 p.2 : Nat)) rfl (by omega) (Nat.le_trans fr.size f1.size)
   have ht : vals .u64 ((ks.take (r + 1)).map fun k => itN k.1 k.2) = vals .u64 ((ks.take r).map fun k => itN k.1 k.2) ++ [.int .u64 (itN p.1 p.2 : Nat)] := by
    rw [List.take_add_one, hp]; simp [vals]
   have HX := Hd (show w2.ownsRow w.heap.size 27 1 v' (r + 1) (vals .u64 ((ks.take (r + 1)).map fun k => itN k.1 k.2)) /\ St w w2 from ⟨by rw [ht]; exact hw2, (fr.trans' f1 nE).trans' f2 (fun k hk => .inr (hrow.lt k hk).1)⟩)
   rw [show W1.heap.size = wr.heap.size + 1 by rw [<- hW1]; simp] at hap
   have HAP := Hd hap
   have HW1 := Hd hW1
   clear hK hap hw2 hloc f2 hrow ht f1 hW1 hk
   generalize itN p.1 p.2 = iv at *
   go_wp2_with (first | (at_builtin; rw [uh HW1]; refine wpList_append_run rfl (.tmp 13) (.tmp 21) 128 rfl _ _ rfl rfl v' w2 (uh HAP) ?_) | fail)
   obtain ⟨hw2, f2⟩ := uh HX
   exact ⟨⟨r + 1, by omega, by simp, hw2, f2⟩, by simp [RowKit.intOf]; omega⟩
  ·have e : r = ks.length := by omega
   subst e
   clear hK hk
   have hlt' : ¬ (ks.length : Int) < ks.length := by omega
   go_wp2_with fail
   go_ret
   exact ⟨_, rfl, by simpa using hrow, fr⟩
set_option maxRecDepth 100000 in
theorem b_pairs (h : Nat) (ba : Option Addr) (bn bc : Nat) (ka : Option Addr) (kc : Nat) (ks : List (Nat × Nat)) (w : World) (hK : Kds w ka kc ks) (hl : ks.length <= 500) (hs : (ks.map (·.2)).sum < 1000000) :
  Calls Tryz.prog 221 #[brV h ba bn bc ka ks.length kc] w fun e w' => e = .returned (.int .i64 ((ks.map (·.2)).sum : Nat)) /\ St w w' := by
 obtain ⟨W, hW⟩ : ∃ W, w.alloc (.cells #[.int .i64 h, .slice ba bn bc, .slice ka ks.length kc] 92) = W := ⟨_, rfl⟩
 have fW : St w W := hW ▸ (Fr.refl _ w).alloc _
 have HW := Hd hW
 clear hW
 go_enter Tryz.func221, Tryz.ntmps221
 go_wp2_with fail
 rw [uh HW]
 clear HW
 go_loopw [3, 9] (fun v i wr => ∃ r : Nat, r <= ks.length /\ i = .int .i64 r /\ v = .int .i64 (((ks.take r).map (·.2)).sum : Nat) /\ St w wr) (fun _ i _ => ks.length - (RowKit.intOf i).toNat)
 case atStart => exact ⟨0, by omega, rfl, rfl, fW⟩
 case round =>
  obtain ⟨r, hrn, rfl, rfl, fr⟩ := hrel
  by_cases hlt : r < ks.length
  ·obtain ⟨p, hp⟩ : ∃ p, ks[r]? = some p := ⟨_, List.getElem?_eq_getElem hlt⟩
   obtain ⟨b, o, rfl, c1, c2⟩ := hK.kid hp
   replace c1 := fr.cell' c1 id
   replace c2 := fr.cell' c2 id
   have hlt' : (r : Int) < ks.length := by omega
   have ht : ((ks.take (r + 1)).map (·.2)).sum = ((ks.take r).map (·.2)).sum + p.2 := by
    rw [List.take_add_one, hp]; simp
   have hle : ((ks.take (r + 1)).map (·.2)).sum <= (ks.map (·.2)).sum := by
    conv => rhs; rw [<- List.take_append_drop (r + 1) ks, List.map_append, List.sum_append]
    omega
   have hw : IntKind.i64.wrap ((((ks.take r).map (·.2)).sum : Nat) + (p.2 : Int)) = (((ks.take r).map (·.2)).sum : Nat) + (p.2 : Int) := (wrap_small _ (by omega) (by omega)).1
   have HG2 := Hd ht
   clear hK ht hle
   generalize ((ks.take r).map (·.2)).sum = s0 at *
   go_wp2_with fail
   exact ⟨⟨r + 1, by omega, by simp, by rw [show ((ks.take (r + 1)).map (·.2)).sum = s0 + p.2 from uh HG2]; simp, fr.alloc _⟩, by simp [RowKit.intOf]; omega⟩
  ·have e : r = ks.length := by omega
   subst e
   clear hK
   have hlt' : ¬ (ks.length : Int) < ks.length := by omega
   go_wp2_with fail
   go_ret
   exact ⟨by simp, fr⟩
end
set_option maxRecDepth 100000 in
theorem y_headB (hh : Nat) (ba : Option Addr) (bc : Nat) (K : List ByteArray) (ka : Option Addr) (kc : Nat) (ks : List (Nat × Nat)) (w : World) (hB : Kys w ba bc K) (hKd : Kds w ka kc ks) (hl : ks.length <= 100) (hl2 : K.length <= 100) (hk : ∀ i, i < K.length -> kL K i <= 3000) (hkk : ∀ k ∈ ks, k.1 < 4294967296 /\ k.2 < 2147483648) :
  Calls Tryz.prog 156 #[.iface 92 (brV hh ba K.length bc ka ks.length kc)] w fun e w' => ∃ v, e = .returned (.tuple #[hdV hh ks.length (jk K).length, v]) /\ OwnL .u8 5 w' w.heap.size v (jk K) /\ St w w' := by
 obtain ⟨W, hW⟩ : ∃ W, w.alloc (.cells #[.int .i64 0, .int .i64 0, .int .i64 0] 101) = W := ⟨_, rfl⟩
 have fW : St w W := hW ▸ (Fr.refl _ w).alloc _
 have oW : W.heap[w.heap.size]? = some (.cells #[.int .i64 0, .int .i64 0, .int .i64 0] 101 (0, 0)) := hW ▸ heap_alloc_new w _
 have sW : W.heap.size = w.heap.size + 1 := by rw [<- hW]; simp
 have KY := b_keys hh ba K.length bc ka ks.length kc W
 have IT := fun w1 (f : St w w1) => b_items hh ba K.length bc ka kc ks w1 (hKd.still f) (by omega) hkk
 have HG := fun w1 => b_height hh ba K.length bc ka ks.length kc w1
 have HB := Hd (hB.still fW)
 have HW := Hd hW
 have HX := Hd (ai fW (ai oW sW))
 have HI := @Hd _ IT
 clear hW fW oW sW IT hB hKd hkk
 obtain ⟨q, hq⟩ : ∃ q, ks.length = q := ⟨_, rfl⟩
 rw [hq] at KY HG HI ⊢
 clear hq hl
 obtain ⟨n, hn⟩ : ∃ n, K.length = n := ⟨_, rfl⟩
 rw [hn] at KY HG HI hl2 hk ⊢
 have HN := Hd hn
 go_enter Tryz.func156, Tryz.ntmps156
 go_wp2_with fail
 rw [uh HW]
 refine KY.mono ?_
 rintro e w1 ⟨rfl, f1⟩
 clear KY HW
 have HS := Hd ((uh HB).still f1)
 clear HB
 go_wp2_with fail
 go_loopw [4, 11] (fun v i wr => ∃ r : Nat, r <= n /\ i = .int .i64 r /\ Pts w1 wr v (kL K) (kZ K) r) (fun _ i _ => n - (RowKit.intOf i).toNat)
 case atStart => exact ⟨0, by omega, rfl, fun _ => 0, fun _ => 0, World.ownsRow_nil _ _ _ _, fun t ht => by omega, Fr.refl _ _⟩
 case round =>
  obtain ⟨r, hrn, rfl, P⟩ := hrel
  by_cases hlt : r < n
  ·obtain ⟨s, hs⟩ : ∃ s, K[r]? = some s := ⟨_, List.getElem?_eq_getElem (by have := uh HN; omega)⟩
   obtain ⟨b, o, e, c1⟩ := (uh HS).cells r (.string s) (by rw [List.getElem?_map, hs]; rfl)
   subst e
   replace c1 := P.choose_spec.choose_spec.2.2.cell' c1 id
   have hlt' : (r : Int) < n := by omega
   obtain ⟨c2, w2, v3, w3, hcv, hap, hsz, P3⟩ := P.more s (by simp [kL, List.getD, hs]) (by simp [kZ, List.getD, hs]) (by omega)
   have HCV := Hd hcv; have HAP := Hd hap; have HP := Hd P3
   clear hcv hap P3 P hs HS
   go_wp2_with fail
   rw [uh HCV]
   go_wp2_with (first | (at_builtin; (try rw [hsz]); refine wpList_append_run rfl (.tmp 15) (.tmp 18) 216 rfl _ _ rfl rfl v3 w3 (uh HAP) ?_) | fail)
   exact ⟨⟨r + 1, by omega, by simp, uh HP⟩, by simp [RowKit.intOf]; omega⟩
  ·have e : r = n := by omega
   subst e
   have hlt' : ¬ (r : Int) < r := by omega
   obtain ⟨pa, pc, rfl⟩ := rows_form P.choose_spec.choose_spec.1
   have fr : St w1 wr := P.choose_spec.choose_spec.2.2
   obtain ⟨A, C, PA⟩ := P.parts (fun i t => byF_lt _ _)
   have JO := join_ok pa r pc A (kL K) C (kZ K) wr PA (by omega) hk
   obtain ⟨fW, oW, sW⟩ := uh HX
   have f0 : St w wr := (fW.trans' f1 nE).trans' fr nE
   have f0W : St W wr := f1.trans' fr nE
   have HF := Hd (ai f0 f0W)
   clear P PA HS fr f1 fW oW sW f0 f0W
   go_wp2_with (first | (go_at_call 183; refine JO.mono ?_; rintro e w2 ⟨jv, rfl, mj⟩) | fail)
   refine (HG _).mono ?_
   rintro e w3 ⟨rfl, fh⟩
   obtain ⟨f0, f0W⟩ := uh HF
   have f2 : St wr w3 := (show St wr w2 from Fr.ofBelow mj.bel).trans' fh nE
   have mo := own_still mj.own fh
   have f03 : St w w3 := f0.trans' f2 nE
   have f0W3 : St W w3 := f0W.trans' f2 nE
   obtain ⟨ja, jc, rfl, _, _⟩ := mj.own.nats
   have IT := uh HI w3 f03
   have HM := Hd (ai mo (ai f03 (show w.heap.size + 1 <= wr.heap.size by have := (uh HX).2.2; have := f0W.size; omega)))
   have HF3 := Hd f0W3
   clear mj mo fh f2 f03 f0W3 f0 f0W HF HI JO
   go_wp2_with fail
   refine IT.mono ?_
   rintro e w4 ⟨iv, rfl, hiv, f4⟩
   obtain ⟨ia, ic, rfl⟩ := rows_form hiv
   obtain ⟨fW, oW, sW⟩ := uh HX
   have o4 : w4.heap[w.heap.size]? = some (.cells #[.int .i64 0, .int .i64 0, .int .i64 0] 101 (0, 0)) := ((uh HF3).trans' f4 nE).obj oW id
   have r0 : w4.cell? ⟨w.heap.size, 0, none⟩ = some (.int .i64 0) := cOo o4 0
   have r1 : w4.cell? ⟨w.heap.size, 1, none⟩ = some (.int .i64 0) := cOo o4 1
   have r2 : w4.cell? ⟨w.heap.size, 2, none⟩ = some (.int .i64 0) := cOo o4 2
   have rz : ∀ o, w4.frozen? ⟨w.heap.size, o, none⟩ = false := fun o => by simp [World.frozen?, o4]
   have HO := Hd (ai o4 f4)
   clear fW oW sW o4 hiv IT f4
   generalize hg : w.heap.size = g at *
   go_wp2
   obtain ⟨o4, f4⟩ := uh HO
   obtain ⟨mo, f03, hgw⟩ := uh HM
   have oF := heap_setCell_same _ g 2 _ _ (.int .i64 ((joinL (kL K) (kZ K) r).length : Nat)) (heap_setCell_same _ g 1 _ _ (.int .i64 (q : Nat)) (heap_setCell_same w4 g 0 _ _ (.int .i64 (hh : Nat)) o4))
   have f5 : Fr (fun k => k = g) w4 (((w4.setCell ⟨g, 0, none⟩ (.int .i64 (hh : Nat))).setCell ⟨g, 1, none⟩ (.int .i64 (q : Nat))).setCell ⟨g, 2, none⟩ (.int .i64 ((joinL (kL K) (kZ K) r).length : Nat))) := (((Fr.refl (fun k => k = g) w4).setCell (.inl rfl) _).setCell (.inl rfl) _).setCell (.inl rfl) _
   refine bodyPost_ret (results_ct Tryz.results156 _ _ g #[.int .i64 (hh : Nat), .int .i64 (q : Nat), .int .i64 ((joinL (kL K) (kZ K) r).length : Nat)] (by rfl) (run_loadVar_row _ g 101 101 _ (0, 0) _ oF Tryz.underlying101 rfl (by kernel_rfl))) rfl ?_
   have ej : jk K = joinL (kL K) (kZ K) r := by unfold jk; rw [show K.length = r from uh HN]
   rw [ej]
   refine ⟨_, rfl, ?_, (f03.trans' f4 nE).trans' f5 (fun k hk => .inr (by rw [hk, hg]; exact Nat.le_refl _))⟩
   exact own_lo (owns_same (own_still mo f4) fun k hk => f5.block k ((own_still mo f4).lt k hk).2 (fun e => by have := (mo.lt k hk).1; omega)) (by omega)
set_option maxRecDepth 100000 in
theorem y_wordsB (hh : Nat) (ba : Option Addr) (bc : Nat) (K : List ByteArray) (ka : Option Addr) (kc : Nat) (ks : List (Nat × Nat)) (w : World) (hKy : Kys w ba bc K) (hKd : Kds w ka kc ks) (hl : ks.length <= 100) (hl2 : K.length <= 100) (hk : Kok K) (hkk : ∀ k ∈ ks, k.1 < 4294967296 /\ k.2 < 2147483648) (h16 : hh <= 16) :
  Calls Tryz.prog 127 #[.iface 92 (brV hh ba K.length bc ka ks.length kc)] w fun e w' => ∃ v, e = .returned v /\ OwnL .u64 27 w' w.heap.size v (Nd.br hh K ks).wds /\ St w w' := by
 have HD := y_headB hh ba bc K ka kc ks w hKy hKd hl hl2 (fun i hi => by have := kL_at hk i hi; omega) hkk
 have IT := fun w1 (f : St w w1) => b_items hh ba K.length bc ka kc ks w1 (hKd.still f) (by omega) hkk
 have hb : (jk K).length < 60000 := by
  rw [jk_len hk]
  have := kb_le hk
  omega
 have hB := jk_lt hk
 have WD := y_word hh ks.length (jk K).length (by omega) (by omega) (by omega)
 have hlw : (Nd.br hh K ks).wds = hwN hh ks.length (jk K).length :: (ks.map (fun k => itN k.1 k.2) ++ pkW (jk K)) := by
  unfold Nd.wds
  simp only [Nd.high, Nd.items, Nd.keys, List.length_map, jk_len hk]
 obtain ⟨B, hBd⟩ : ∃ B, jk K = B := ⟨_, rfl⟩
 rw [hBd] at HD WD hlw hb hB
 obtain ⟨hw, hhw⟩ : ∃ hw, hwN hh ks.length B.length = hw := ⟨_, rfl⟩
 rw [hhw] at WD hlw
 have hml : (ks.map (fun k => itN k.1 k.2)).length = ks.length := by simp
 generalize ks.map (fun k => itN k.1 k.2) = M at *
 have HLW := Hd hlw
 have HI := @Hd _ IT
 clear IT hKy hKd hk hkk hBd hhw hlw
 generalize (Nd.br hh K ks).wds = R at *
 generalize ks.length = n at *
 go_enter Tryz.func127, Tryz.ntmps127
 go_wp2_with (first | (go_at_call 156; refine HD.mono ?_; rintro e w1 ⟨jv, rfl, hj, f1⟩) | (go_at_call 158; refine (WD _).mono ?_; rintro e w3 ⟨rfl, f3⟩) | fail)
 have f3' : St w w3 := (f1.alloc _).trans' f3 nE
 have f13 : St w1 w3 := ((Fr.refl _ w1).alloc _).trans' f3 nE
 obtain ⟨W4, hW4⟩ : ∃ W4, w3.alloc (.cells #[.int .u64 (hw : Nat)] 27) = W4 := ⟨_, rfl⟩
 have f4 : St w3 W4 := hW4 ▸ (Fr.refl _ w3).alloc _
 have o4 : W4.heap[w3.heap.size]? = some (.cells #[.int .u64 (hw : Nat)] 27 (0, 0)) := hW4 ▸ heap_alloc_new w3 _
 have f04 : St w W4 := f3'.trans' f4 nE
 rw [hW4]
 refine (uh HI W4 f04).mono ?_
 rintro e w5 ⟨iv, rfl, hiv, f5⟩
 obtain ⟨ia, ic, rfl⟩ := rows_form hiv
 obtain ⟨ja, jc, rfl, _, hN⟩ := hj.nats
 have f15 : St w1 w5 := (f13.trans' f4 nE).trans' f5 nE
 have PK := pack_ok ja B.length jc (fun t => B.getD t 0) w5 (nats_fr hN f15 (fun _ _ x => x)) (fun t _ => hB t) (by omega)
 have hq : 1 <= need B.length /\ need B.length <= 10000 := by unfold need; omega
 have hq2 := pkW_len B
 have hpk : ∀ j, j < need B.length - 1 -> (vals .u64 (pkW B))[j]? = some (.int .u64 (packF (fun t => B.getD t 0) B.length (j + 1) : Nat)) := fun j hj => by
  have : j < (B.length + 7) / 8 := by unfold need at hj; omega
  simp [vals, pkW, this]
 generalize need B.length = q at *
 generalize packF (fun t => B.getD t 0) B.length = pf at *
 have s1 : ∀ g w, (Instr.slice 128 (.slice (some ⟨g, 0, none⟩) q q) (some (.int .i64 1)) none none).run Tryz.prog w = .ok (.slice (cutZ 1 (some ⟨g, 0, none⟩) q 1) (q - 1) (q - 1)) w := fun g w => slice_fromZ elt_W elem_u64s (some ⟨g, 0, none⟩) q q 1 w hq.1
 have HX := Hd (ai o4 (ai f04 (ai f5 hiv)))
 have HPK := Hd (ai hpk hq2)
 clear o4 f04 f5 hiv hpk hq2 f3 f3' f13 f4 f15 hN HI HD WD hj f1 hB
 go_wp2_with (first | (go_at_call 159; refine PK.mono ?_; rintro e w6 ⟨rfl, m6⟩) | fail)
 obtain ⟨o4, f04, f5, hiv⟩ := uh HX
 obtain ⟨hpk, hq2⟩ := uh HPK
 have f6 : St w5 w6 := Fr.ofBelow m6.bel
 have f46 : St W4 w6 := f5.trans' f6 nE
 have o6 := f46.obj o4 id
 have S1 : Sl w6 1 (some ⟨w3.heap.size, 0, none⟩) 1 1 (vals .u64 [hw]) := ⟨rfl, Nat.le_refl _, (fun e => by cases e), vals_one _ _, (fun j u hu => ⟨w3.heap.size, 0, rfl, by
  rw [Nat.zero_add, cOo o6 j, <- hu]
  simp [vals]⟩), (fun x e => by cases e; rfl)⟩
 have S2 : Sl w6 1 ia n ic (vals .u64 M) := (sl_of_row hiv (vals_one _ _)).still f6
 have S0 : Sl w6 1 (some ⟨w5.heap.size, 0, none⟩) q q ((List.range q).map fun j => .int .u64 (pf j : Nat)) := ⟨by simp, Nat.le_refl _, (fun e => by cases e), (fun u hu => by
  obtain ⟨t, _, rfl⟩ := List.mem_map.1 hu
  rfl), (fun j u hu => ⟨w5.heap.size, 0, rfl, by
  rw [List.getElem?_map] at hu
  have hj : j < q := by
   refine Nat.lt_of_not_le fun hh => ?_
   rw [List.getElem?_eq_none (by simpa using hh)] at hu
   cases hu
  rw [List.getElem?_range hj] at hu
  rw [Nat.zero_add, m6.cell j hj, <- hu]
  rfl⟩), (fun x e => by cases e; rfl)⟩
 have S3 := S0.drop 1 hq.1
 have e3 : ((List.range q).map fun j => Value.int .u64 (pf j : Nat)).drop (1 * 1) = vals .u64 (pkW B) := by
  apply List.ext_getElem?
  intro j
  by_cases hj : j < q - 1
  ·rw [hpk j hj, List.getElem?_drop, List.getElem?_map, List.getElem?_range (by omega), show 1 * 1 + j = j + 1 by omega]
   rfl
  ·rw [List.getElem?_eq_none (by simp; omega), List.getElem?_eq_none (by simp [vals]; omega)]
 rw [e3] at S3
 have CC := cat3_W w6 _ _ _ _ _ _ _ _ _ _ _ _ S1 S2 S3 (by omega)
 have hR := uh HLW
 have eR : vals .u64 [hw] ++ vals .u64 M ++ vals .u64 (pkW B) = vals .u64 R := by rw [hR]; simp [vals]
 have eL : 1 + n + (q - 1) = R.length := by rw [hR]; simp [hml, hq2]; omega
 rw [eR, eL] at CC
 have f06 : St w w6 := f04.trans' f46 nE
 have HF := Hd f06
 clear o4 f04 f5 hiv hpk hq2 f6 f46 o6 S1 S2 S0 S3 e3 hR eR eL f06 m6 HX HPK HLW PK
 refine CC.mono ?_
 rintro e w8 ⟨v, rfl, hv, f8⟩
 go_wp2_with fail
 go_ret
 exact ⟨_, rfl, own_lo hv (uh HF).size, (uh HF).trans' f8 nE⟩
theorem wds_leaf (l : List Pr) (h : Kok (l.map (·.1))) : (Nd.lf l).wds = lwN l := by
 unfold Nd.wds lwN
 simp only [Nd.high, Nd.items, Nd.keys, List.length_map, jk_len h]
theorem y_words {F : Nat -> Prop} {w : World} {v : Value} {n : Nd} (h : NdO F w v n) (hk : Kok n.keys) (hl : n.items.length <= 100) (hf : n.Form) (h16 : n.high <= 16) :
  Calls Tryz.prog 127 #[v] w fun e w' => ∃ v, e = .returned v /\ OwnL .u64 27 w' w.heap.size v n.wds /\ St w w' := by
 cases n using Nd.cs with
 | lf l =>
  obtain ⟨a, c, rfl, h, _⟩ := h
  have hl' : l.length <= 100 := by simpa [Nd.items] using hl
  have hk' : Kok (l.map (·.1)) := hk
  rw [wds_leaf l hk']
  exact y_wordsL a c l w h hl' (fun i hi => by have := kL_at hk' i (by simpa using hi); omega) (by rw [jk_len hk']; have := kb_le hk'; simp at this; omega) (jk_lt hk')
 | br hh B ks =>
  obtain ⟨ba, bc, ka, kc, rfl, h1, h2, _, _⟩ := h
  have hl' : ks.length <= 100 := by simpa [Nd.items] using hl
  obtain ⟨f1, f2, f3, f4⟩ := hf
  exact y_wordsB hh ba bc B ka kc ks w h1 h2 hl' (by omega) hk f4 h16
theorem y_sizeN {F : Nat -> Prop} {w : World} {v : Value} {n : Nd} (h : NdO F w v n) (hk : Kok n.keys) (hl : n.items.length <= 100) (hf : n.keys.length <= 100) (hkk : ∀ hh B ks, n = .br hh B ks -> ∀ k ∈ ks, k.1 < 4294967296 /\ k.2 < 2147483648) :
  Calls Tryz.prog 125 #[v] w fun e w' => e = .returned (.int .i64 n.size) /\ St w w' := by
 have hb := kb_le hk
 cases n using Nd.cs with
 | lf l =>
  obtain ⟨a, c, rfl, h, _⟩ := h
  have hl' : l.length <= 100 := by simpa [Nd.items] using hl
  have hk' : Kok (l.map (·.1)) := hk
  have e : (Nd.lf l).size = hsz l.length (jk (l.map (·.1))).length := by unfold Nd.size; simp only [Nd.items, Nd.keys, List.length_map, jk_len hk']
  rw [e]
  refine y_sizeOf _ 1 l.length _ (by omega) (by rw [jk_len hk']; simp [Nd.keys] at hb; omega) w ((y_headL a c l w h hl' (fun i hi => by have := kL_at hk' i (by simpa using hi); omega)).mono ?_)
  rintro e w' ⟨v, rfl, _, f⟩
  exact ⟨v, rfl, f⟩
 | br hh B ks =>
  obtain ⟨ba, bc, ka, kc, rfl, h1, h2, _, _⟩ := h
  have hl' : ks.length <= 100 := by simpa [Nd.items] using hl
  have hk' : Kok B := hk
  have e : (Nd.br hh B ks).size = hsz ks.length (jk B).length := by unfold Nd.size; simp only [Nd.items, Nd.keys, List.length_map, jk_len hk']
  rw [e]
  have hf' : B.length <= 100 := hf
  refine y_sizeOf _ hh ks.length _ (by omega) (by rw [jk_len hk']; have : kb B <= 81 * B.length := hb; omega) w ((y_headB hh ba bc B ka kc ks w h1 h2 hl' hf (fun i hi => by have := kL_at hk' i hi; omega) (hkk hh B ks rfl)).mono ?_)
  rintro e w' ⟨v, rfl, _, f⟩
  exact ⟨v, rfl, f⟩
end Go.Proofs.YtbpndmghlnadiaaGreatDoor
