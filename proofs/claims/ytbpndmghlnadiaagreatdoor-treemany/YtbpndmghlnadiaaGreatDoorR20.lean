/- Joined: Zc Rl Ro GFll Zd Yq Yv. -/
import Derived.Test.YtbpndmghlnadiaaGreatDoorR06
import Derived.Test.YtbpndmghlnadiaaGreatDoorR07
import Derived.Test.YtbpndmghlnadiaaGreatDoorR15
import Derived.Test.YtbpndmghlnadiaaGreatDoorR17
import Derived.Test.YtbpndmghlnadiaaGreatDoorR19
namespace Go.Proofs.YtbpndmghlnadiaaGreatDoor
open Go.RowKit
set_option maxHeartbeats 4000000
def Pok (l : List Pr) : Prop := ∀ p ∈ l, (1 <= p.1.size /\ p.1.size <= 80) /\ p.2 < 18446744073709551616
theorem Pok.kok {l : List Pr} (h : Pok l) : Kok (l.map (·.1)) := fun k hk => by
 obtain ⟨p, hp, rfl⟩ := List.mem_map.1 hk
 exact (h p hp).1
theorem Pok.put {l : List Pr} (h : Pok l) {x : ByteArray} {v : Nat} (hx : 1 <= x.size /\ x.size <= 80) (hv : v < 18446744073709551616) : Pok (putP l x v) := fun p hp => by
 rcases putP_mem hp with rfl | hp
 ·exact ⟨hx, hv⟩
 ·exact h p hp
theorem Rise.keys {l : List Pr} (h : Rise l) : (l.map (·.1)).Pairwise ltK := List.pairwise_map.2 h
theorem Tr.std {nu sz : Nat} {f : Nat -> Int} {h u : Nat} {l : List Pr} {Q : List Nat} (x : Tr nu sz f h u l Q) : ∃ n, Std nu sz f u n := by
 cases h with
 | zero => exact x.elim
 | succ h => obtain ⟨n, Q', s, _⟩ := x; exact ⟨n, s⟩
theorem For.sub {T : Nat -> List Pr -> List Nat -> Prop} {B : List ByteArray} {ks : List (Nat × List Pr × List Nat)} {l : List Pr} {Q : List Nat} (F : For T B ks l Q) {k : Nat × List Pr × List Nat} (hk : k ∈ ks) : k.2.1.Sublist l /\ ∀ v ∈ k.2.2, v ∈ Q := by
 refine ⟨?_, fun v hv => ?_⟩
 ·rw [F.2.1]
  exact List.sublist_flatten_of_mem (List.mem_map.2 ⟨k, hk, rfl⟩)
 ·rw [F.2.2.1]
  exact List.mem_flatten.2 ⟨k.2.2, List.mem_map.2 ⟨k, hk, rfl⟩, hv⟩
theorem Rise.sub {l m : List Pr} (h : Rise l) (s : m.Sublist l) : Rise m := List.Pairwise.sublist s h
theorem Pok.sub {l m : List Pr} (h : Pok l) (s : m.Sublist l) : Pok m := fun p hp => h p (s.subset hp)
theorem Un.ok {nu sz : Nat} {f : Nat -> Int} {h : Nat} {n : Nd} {l : List Pr} {Q : List Nat} (x : Un nu (Tr nu sz f h) (h + 1) n l Q) (hz : sz <= 40000) (pk : Pok l) (ri : Rise l) (hl : l.length < 1000000) (h16 : h + 1 <= 16) (h2 : 1 <= h -> 2 <= n.items.length) : n.Ok := by
 rcases x with ⟨e1, rfl, e3, e4⟩ | ⟨h2', B, ks, rfl, F⟩
 ·refine ⟨pk.kok, ri.keys, Nat.le_refl _, by show 1 <= 16; omega, fun y hy => ?_, e3⟩
  obtain ⟨p, hp, rfl⟩ := List.mem_map.1 hy
  exact (pk p hp).2
 ·have hb : ∀ k ∈ ks.map (kidN nu), k.1 < 4294967296 /\ k.2 < 2147483648 := fun k hk => by
   obtain ⟨q, hq, rfl⟩ := List.mem_map.1 hk
   obtain ⟨m, s⟩ := (F.1 q hq).std
   have := s.fit
   have := (F.sub hq).1.length_le
   exact ⟨by show fi nu + 8 * q.1 < _; omega, by show q.2.1.length < _; omega⟩
  have hn := F.2.2.2.1.len
  rw [List.length_map] at hn
  refine ⟨F.2.2.2.2, F.2.2.2.1.rise, by show 1 <= h + 1; omega, h16, fun y hy => ?_, by show 2 <= h + 1; omega, by rw [List.length_map]; exact hn, ?_, hb⟩
  ·obtain ⟨k, hk, rfl⟩ := List.mem_map.1 hy
   obtain ⟨a1, a2⟩ := hb k hk
   unfold itN
   omega
  ·have := h2 (by omega)
   simpa [Nd.items] using this
theorem For.put {T : Nat -> List Pr -> List Nat -> Prop} {B B' : List ByteArray} {ks ks' : List (Nat × List Pr × List Nat)} {l : List Pr} {Q Q' : List Nat} {x : ByteArray} {v i : Nat} {kk : Nat × List Pr × List Nat} (F : For T B ks l Q) (w : Way B x i) (hk : ks[i]? = some kk) (F' : For T B' ks' (putP kk.2.1 x v) Q') :
  ∃ Q2, For T (B.take i ++ B' ++ B.drop i) (ks.take i ++ ks' ++ ks.drop (i + 1)) (putP l x v) Q2 /\ ∀ u ∈ Q2, u ∈ Q \/ u ∈ Q' := by
 obtain ⟨f1, f2, f3, f4, f5⟩ := F
 obtain ⟨g1, g2, g3, g4, g5⟩ := F'
 have hik : i < ks.length := (List.getElem?_eq_some_iff.1 hk).1
 have hm : (ks.map (·.2.1)).getD i [] = kk.2.1 := by simp [List.getD, hk]
 refine ⟨_, ⟨fun k hk => ?_, ?_, rfl, ?_, (f5.take i).app g5 |>.app (f5.drop i)⟩, fun u hu => ?_⟩
 ·rcases List.mem_append.1 hk with hk | hk
  ·rcases List.mem_append.1 hk with hk | hk
   ·exact f1 k (List.mem_of_mem_take hk)
   ·exact g1 k hk
  ·exact f1 k (List.mem_of_mem_drop hk)
 ·rw [f2, putP_way w f4, hm, List.map_append, List.map_append, List.flatten_append, List.flatten_append, List.map_take, List.map_drop, <- g2, List.append_assoc]
 ·rw [List.map_append, List.map_append, List.map_take, List.map_drop, List.append_assoc, List.append_assoc]
  refine sep_replace f4 w.le g4 (fun h0 p hp => ?_) (fun h0 p hp => ?_)
  ·rw [<- g2] at hp
   rcases putP_mem hp with rfl | hp
   ·exact w.lo (i - 1) (by omega)
   ·have h2 := f4
    have hn := f4.len
    rw [getD_split B default (i - 1) (by have := w.le; omega), <- List.take_append_drop i (ks.map (·.2.1))] at h2
    obtain ⟨_, _, _, s4⟩ := sep_split (by rw [List.length_take, List.length_take]; omega) h2
    refine s4 p ?_
    rw [<- List.getElem_cons_drop (by rw [List.length_map]; exact hik), List.flatten_cons]
    refine List.mem_append_left _ ?_
    have : (ks.map (·.2.1))[i]'(by rw [List.length_map]; exact hik) = kk.2.1 := by
     rw [List.getElem_map]
     rw [(List.getElem?_eq_some_iff.1 hk).2]
    rw [this]; exact hp
  ·rw [<- g2] at hp
   rcases putP_mem hp with rfl | hp
   ·exact w.hi i (Nat.le_refl _) h0
   ·have h2 := f4
    have hn := f4.len
    rw [getD_split B default i h0, <- List.take_append_drop (i + 1) (ks.map (·.2.1))] at h2
    obtain ⟨_, _, s3, _⟩ := sep_split (by rw [List.length_take, List.length_take]; omega) h2
    refine s3 p ?_
    rw [<- List.take_append_getElem (by rw [List.length_map]; exact hik), List.flatten_append]
    refine List.mem_append_right _ ?_
    have : (ks.map (·.2.1))[i]'(by rw [List.length_map]; exact hik) = kk.2.1 := by
     rw [List.getElem_map]
     rw [(List.getElem?_eq_some_iff.1 hk).2]
    rw [this]; simpa using hp
 ·rw [List.map_append, List.map_append, List.flatten_append, List.flatten_append] at hu
  rcases List.mem_append.1 hu with hu | hu
  ·rcases List.mem_append.1 hu with hu | hu
   ·refine .inl ?_
    rw [f3]
    obtain ⟨r, hr, hu⟩ := List.mem_flatten.1 hu
    obtain ⟨k, hk, rfl⟩ := List.mem_map.1 hr
    exact List.mem_flatten.2 ⟨_, List.mem_map.2 ⟨k, List.mem_of_mem_take hk, rfl⟩, hu⟩
   ·rw [<- g3] at hu
    exact .inr hu
  ·refine .inl ?_
   rw [f3]
   obtain ⟨r, hr, hu⟩ := List.mem_flatten.1 hu
   obtain ⟨k, hk, rfl⟩ := List.mem_map.1 hr
   exact List.mem_flatten.2 ⟨_, List.mem_map.2 ⟨k, List.mem_of_mem_drop hk, rfl⟩, hu⟩
theorem For.cut {T : Nat -> List Pr -> List Nat -> Prop} {B : List ByteArray} {ks : List (Nat × List Pr × List Nat)} {l : List Pr} {Q : List Nat} (F : For T B ks l Q) (i : Nat) (h1 : 1 <= i) (hi : i <= B.length) :
  ∃ l1 l2 Q1 Q2, l = l1 ++ l2 /\ Q = Q1 ++ Q2 /\ For T (B.take (i - 1)) (ks.take i) l1 Q1 /\ For T (B.drop i) (ks.drop i) l2 Q2 /\ Blw l1 (B.getD (i - 1) default) /\ Nbl l2 (B.getD (i - 1) default) := by
 obtain ⟨f1, f2, f3, f4, f5⟩ := F
 have hn := f4.len
 have h2 := f4
 rw [getD_split B default (i - 1) (by omega), <- List.take_append_drop i (ks.map (·.2.1))] at h2
 obtain ⟨s1, s2, s3, s4⟩ := sep_split (by rw [List.length_take, List.length_take]; omega) h2
 rw [show i - 1 + 1 = i by omega] at s2
 rw [<- List.map_take] at s1 s3
 rw [<- List.map_drop] at s2 s4
 refine ⟨_, _, _, _, ?_, ?_, ⟨fun k hk => f1 k (List.mem_of_mem_take hk), rfl, rfl, s1, f5.take _⟩, ⟨fun k hk => f1 k (List.mem_of_mem_drop hk), rfl, rfl, s2, f5.drop _⟩, s3, s4⟩
 ·rw [f2, <- List.flatten_append, <- List.map_append, List.take_append_drop]
 ·rw [f3, <- List.flatten_append, <- List.map_append, List.take_append_drop]
theorem For.one {T : Nat -> List Pr -> List Nat -> Prop} {u : Nat} {l : List Pr} {Q : List Nat} (t : T u l Q) (hn : l ≠ []) : For T [] [(u, l, Q)] l Q :=
 ⟨fun k hk => by rw [List.mem_singleton.1 hk]; exact t, by simp, by simp, hn, fun k hk => by cases hk⟩
theorem For.two {T : Nat -> List Pr -> List Nat -> Prop} {u u2 : Nat} {l l2 : List Pr} {Q Q2 : List Nat} {x : ByteArray} (t : T u l Q) (t2 : T u2 l2 Q2) (hn : l ≠ []) (hn2 : l2 ≠ []) (hb : Blw l x) (hb2 : Nbl l2 x) (hx : 1 <= x.size /\ x.size <= 80) : For T [x] [(u, l, Q), (u2, l2, Q2)] (l ++ l2) (Q ++ Q2) :=
 ⟨fun k hk => by
  rcases List.mem_cons.1 hk with rfl | hk
  ·exact t
  ·rw [List.mem_singleton.1 hk]; exact t2, by simp, by simp, ⟨hn, hb, by simpa using hb2, hn2⟩, fun k hk => by rw [List.mem_singleton.1 hk]; exact hx⟩
theorem grown_size {B B' : List ByteArray} {i n : Nat} (hB' : Kok B') (hb : B'.length <= 1) (hs : hsz n (kb B) <= 32) : hsz (n + B'.length) (kb (B.take i ++ B' ++ B.drop i)) <= 46 := by
 have h1 := kb_le hB'
 have h2 := kb_split B i
 rw [kb_app, kb_app]
 unfold hsz need at *
 omega
theorem Inv.apartB {nu : Nat} {F : Nat -> Nat -> Bool} {K : Nat -> Nat} {u v : Nat} (h : Inv nu F K (fun _ => 0)) (hu : K u ≠ 0) (hv : K v ≠ 0) (hlt : u < v) : u + 2 ^ lv (K u) <= v := by
 refine Classical.byContradiction fun hn => ?_
 obtain ⟨h1, _, h3⟩ := h.lift hu
 have hd : v / 2 ^ lv (K u) = u / 2 ^ lv (K u) := by
  have e : u = 2 ^ lv (K u) * (u / 2 ^ lv (K u)) := by rw [Nat.mul_comm]; exact h3.symm
  have p := two_pos (lv (K u))
  generalize u / 2 ^ lv (K u) = c at *
  generalize 2 ^ lv (K u) = Y at *
  refine Nat.div_eq_of_lt_le ?_ ?_
  ·rw [Nat.mul_comm]; omega
  ·rw [Nat.add_mul, Nat.mul_comm c Y]; omega
 have := h1.unasked (u := v) (h.asks v hv).1 (by unfold ind; rw [if_pos hd])
 unfold setK at this
 rw [if_neg (by omega)] at this
 exact hv this

section
section
variable {nu sz : Nat} {w w' w0 : World} {hb sb b : Nat} {T : Tay} {A : Ab} {P : List (Int × Int)}
def gwN (g : Nat -> Int) (a : Nat) (wd : Nat -> Nat) (o j : Nat) : Nat -> Int := fun i => if a <= i /\ i < a + j then ((wd (o + (i - a)) : Nat) : Int) else g i
theorem gw_zero (g : Nat -> Int) (a : Nat) (wd : Nat -> Nat) (o : Nat) : gwN g a wd o 0 = g := by
 funext i; unfold gwN; rw [if_neg (by omega)]
theorem gw_step (g : Nat -> Int) (a : Nat) (wd : Nat -> Nat) (o j : Nat) : upd (gwN g a wd o j) (a + j) ((wd (o + j) : Nat) : Int) = gwN g a wd o (j + 1) := by
 funext i
 by_cases h : i = a + j
 ·subst h
  rw [upd_same]
  unfold gwN
  rw [if_pos (by omega), show a + j - a = j by omega]
 ·rw [upd_other _ _ h]
  unfold gwN
  by_cases h2 : a <= i /\ i < a + j
  ·rw [if_pos h2, if_pos (by omega)]
  ·rw [if_neg h2, if_neg (by omega)]
theorem Nats.fr {k : IntKind} {a : Option Addr} {n : Nat} {bt : Nat -> Nat} (h : Nats k w a n bt) {F : Nat -> Prop} (f : Fr F w w') (hn : ∀ x, a = some x -> ¬ F x.block) : Nats k w' a n bt := fun i hi => by
 obtain ⟨xb, xo, e, c⟩ := h i hi
 exact ⟨xb, xo, e, f.cell' c (hn ⟨xb, xo, none⟩ e)⟩
end
end

section
theorem pow_split {i m : Nat} (h : i <= m) : (2 : Nat) ^ m = 2 ^ i * 2 ^ (m - i) := by rw [<- Nat.pow_add]; congr 1; omega
theorem in_block {i m v : Nat} (h : i <= m) : v / 2 ^ i * 2 ^ i / 2 ^ m = v / 2 ^ m := by
 rw [pow_split h, Nat.mul_comm (v / 2 ^ i), Nat.mul_div_mul_left _ _ (two_pos i), Nat.div_div_eq_div_mul]
theorem up_block {j i c : Nat} (h : j <= i) : c * 2 ^ j / 2 ^ i = c / 2 ^ (i - j) := by
 rw [pow_split h, Nat.mul_comm c, Nat.mul_div_mul_left _ _ (two_pos j)]
theorem bud_up {j i c : Nat} (h : j < i) : bud c * 2 ^ j / 2 ^ i = c * 2 ^ j / 2 ^ i := by
 rw [up_block (by omega), up_block (by omega)]
 obtain ⟨d, hd⟩ : ∃ d, i - j = d + 1 := ⟨i - j - 1, by omega⟩
 rw [hd, Nat.pow_succ, Nat.mul_comm, <- Nat.div_div_eq_div_mul, <- Nat.div_div_eq_div_mul, bud_half]
section
variable {nu : Nat} {F : Nat -> Nat -> Bool} {K : Nat -> Nat}
theorem Inv.who (h : Inv nu F K (fun _ => 0)) {v : Nat} (hv' : v < nu) : ∃ i, i < 7 /\ (F i (v / 2 ^ i) = true \/ pc K i (v / 2 ^ i) = true) := by
 have h1 : hv F K v + 0 = 1 := h.cov v hv'
 obtain ⟨i, hi, h2⟩ := sum7_pos (g := fun k => (F k (v / 2 ^ k)).toNat + (pc K k (v / 2 ^ k)).toNat) (by unfold hv at h1; omega)
 refine ⟨i, hi, ?_⟩
 cases e1 : F i (v / 2 ^ i)
 ·cases e2 : pc K i (v / 2 ^ i)
  ·simp only [e1, e2] at h2
   simp at h2
  ·exact .inr rfl
 ·exact .inl rfl
theorem Inv.not_two (h : Inv nu F K (fun _ => 0)) {v i j : Nat} (hv' : v < nu) (hi : i < 7) (hj : j < 7) (hne : i ≠ j) (h1 : F i (v / 2 ^ i) = true) (h2 : F j (v / 2 ^ j) = true) : False := by
 have h3 : hv F K v + 0 = 1 := h.cov v hv'
 have h4 := sum7_le2 (fun k => (F k (v / 2 ^ k)).toNat + (pc K k (v / 2 ^ k)).toNat) hi hj hne
 simp only [h1, h2] at h4
 unfold hv at h3
 simp at h4
 omega
theorem Inv.dense (h : Inv nu F K (fun _ => 0)) {m : Nat} (hm : m < 7) (hp : ∀ u, K u ≠ 0 -> lv (K u) <= m) (hf : ∀ j, m <= j -> j < 7 -> ∀ c, F j c = false) {b : Nat} (hb : b < nu / 2 ^ m) : ∃ u, K u ≠ 0 /\ u / 2 ^ m = b := by
 refine Classical.byContradiction fun hno => ?_
 have hno' : ∀ u, K u ≠ 0 -> u / 2 ^ m ≠ b := fun u h1 h2 => hno ⟨u, h1, h2⟩
 have nopc : ∀ v i, v / 2 ^ m = b -> pc K i (v / 2 ^ i) = true -> False := fun v i hvb hpc => by
  unfold pc at hpc
  have hpc' := of_decide_eq_true hpc
  have him : i <= m := by rw [<- hpc'.2]; exact hp _ hpc'.1
  exact hno' _ hpc'.1 (by rw [in_block him]; exact hvb)
 have key : ∀ j, j <= m -> ∀ i, i < j -> ∀ c, c * 2 ^ i / 2 ^ m = b -> F i c = false := by
  intro j
  induction j with
  | zero => intro _ i hi; omega
  | succ j ih =>
   intro hj i hi c hc
   by_cases e : i < j
   ·exact ih (by omega) i e c hc
   ·have : i = j := by omega
    subst this
    cases hF : F i c with
    | false => rfl
    | true =>
     exfalso
     have hin := h.inside i (by omega) c hF
     have c1 := block_lt hin
     have hbu : bud c * 2 ^ i / 2 ^ m = b := by rw [bud_up (by omega)]; exact hc
     have bb := block_lt hb
     have hvN : bud c * 2 ^ i < nu := by
      have h1 : bud c * 2 ^ i < (b + 1) * 2 ^ m := by
       have := Nat.lt_mul_div_succ (bud c * 2 ^ i) (two_pos m)
       rw [hbu] at this
       rw [Nat.mul_comm (b + 1)]; exact this
      rw [Nat.add_mul, Nat.one_mul] at h1
      omega
     obtain ⟨k, hk, hw⟩ := h.who hvN
     rcases hw with hw | hw
     ·by_cases k1 : k < i
      ·have := ih (by omega) k k1 (bud c * 2 ^ i / 2 ^ k) (by rw [in_block (by omega)]; exact hbu)
       rw [this] at hw; cases hw
      ·by_cases k2 : k = i
       ·subst k2
        rw [block_self] at hw
        have := h.half k (by omega) c hF
        rw [this] at hw; cases hw
       ·rw [bud_up (by omega)] at hw
        refine h.not_two (v := c * 2 ^ i) (by have := two_pos i; omega) hk (show i < 7 by omega) (by omega) hw ?_
        rw [block_self]; exact hF
     ·exact nopc _ k hbu hw
 obtain ⟨k, hk, hw⟩ := h.who (block_in hb)
 have hself : b * 2 ^ m / 2 ^ m = b := block_self m b
 rcases hw with hw | hw
 ·by_cases k1 : k < m
  ·have := key m (Nat.le_refl _) k k1 (b * 2 ^ m / 2 ^ k) (by rw [in_block (by omega)]; exact hself)
   rw [this] at hw; cases hw
  ·rw [hf k (by omega) hk] at hw; cases hw
 ·exact nopc _ k hself hw
theorem sumTo_up (g : Nat -> Nat) {a c : Nat} (h : a <= c) : sumTo g a <= sumTo g c := by
 obtain ⟨d, rfl⟩ : ∃ d, c = a + d := ⟨c - a, by omega⟩
 induction d with
 | zero => exact Nat.le_refl _
 | succ d ih => rw [<- Nat.add_assoc]; simp only [sumTo]; have := ih (by omega); omega
theorem sumTo_has (g : Nat -> Nat) {a c u : Nat} (h1 : a <= u) (h2 : u < c) (h3 : 1 <= g u) : sumTo g a + 1 <= sumTo g c := by
 have x1 := sumTo_up g h1
 have x2 := sumTo_up g (show u + 1 <= c by omega)
 simp only [sumTo] at x2
 omega
theorem Inv.many (h : Inv nu F K (fun _ => 0)) {m : Nat} (hm : m < 7) (hp : ∀ u, K u ≠ 0 -> lv (K u) <= m) (hf : ∀ j, m <= j -> j < 7 -> ∀ c, F j c = false) : nu / 2 ^ m <= cnt nu K := by
 have key : ∀ n, n <= nu / 2 ^ m -> n <= sumTo (fun u => if K u = 0 then 0 else 1) (n * 2 ^ m) := by
  intro n
  induction n with
  | zero => intro _; exact Nat.zero_le _
  | succ n ih =>
   intro hn
   obtain ⟨u, h1, h2⟩ := h.dense hm hp hf (b := n) (by omega)
   rw [Nat.div_eq_iff (two_pos m)] at h2
   have := sumTo_has (fun u => if K u = 0 then 0 else 1) (a := n * 2 ^ m) (c := (n + 1) * 2 ^ m) (u := u) h2.1 (by rw [Nat.add_mul, Nat.one_mul]; have := two_pos m; omega) (by simp [h1])
   have := ih (by omega)
   omega
 exact Nat.le_trans (key _ (Nat.le_refl _)) (sumTo_up _ (Nat.div_mul_le_self nu (2 ^ m)))
theorem Inv.roomy (h : Inv nu F K (fun _ => 0)) {m k : Nat} (hm : m < 7) (hk : k <= m) (hp : ∀ u, K u ≠ 0 -> lv (K u) <= m) (hc : cnt nu K < nu / 2 ^ m) (hf : ∀ j, k <= j -> j < 7 -> ∀ c, F j c = false) : False := by
 have := h.many hm hp (fun j h1 h2 => hf j (by omega) h2)
 omega
theorem cnt_le (nu : Nat) (K : Nat -> Nat) : cnt nu K <= nu := by
 have : cnt nu K <= sumTo (fun _ => 1) nu := sumTo_le fun u _ => by split <;> omega
 rwa [sumTo_one] at this
theorem cnt_none (nu : Nat) : cnt nu (fun _ => 0) = 0 := sumTo_zero fun u _ => by simp
end
end
structure Chg (nu : Nat) (f : Nat -> Int) (k : Nat) (g : Nat -> Int) : Prop where
 st : HpS nu g
 sam : ∀ v, ask nu f v ≠ 0 -> Sam nu f g v
 few : cnt nu (ask nu g) <= cnt nu (ask nu f) + k
 used : inP nu (ask nu g) <= inP nu (ask nu f) + 4 * k
 low : (∀ u, ask nu f u <= 32) -> ∀ u, ask nu g u <= 32
 root : ∀ i, 2 <= i -> i < 18 -> g i = f i
theorem Chg.refl {nu : Nat} {f : Nat -> Int} (s : HpS nu f) : Chg nu f 0 f := ⟨s, fun _ _ => ⟨rfl, fun _ _ => rfl⟩, Nat.le_refl _, Nat.le_refl _, fun h => h, fun _ _ _ => rfl⟩
theorem Sam.trans {nu : Nat} {f g h : Nat -> Int} {v : Nat} (a : Sam nu f g v) (b : Sam nu g h v) : Sam nu f h v := ⟨b.1.trans a.1, fun i hi => (b.2 i (by rw [a.1]; exact hi)).trans (a.2 i hi)⟩
theorem Chg.trans {nu j k : Nat} {f g h : Nat -> Int} (a : Chg nu f j g) (b : Chg nu g k h) : Chg nu f (j + k) h :=
 ⟨b.st, fun v hv => (a.sam v hv).trans (b.sam v (by rw [(a.sam v hv).1]; exact hv)), by have := a.few; have := b.few; omega, by have := a.used; have := b.used; omega, fun hl => b.low (a.low hl), fun i h1 h2 => (b.root i h1 h2).trans (a.root i h1 h2)⟩
theorem Chg.le {nu j k : Nat} {f g : Nat -> Int} (a : Chg nu f j g) (h : j <= k) : Chg nu f k g := ⟨a.st, a.sam, by have := a.few; omega, by have := a.used; omega, a.low, a.root⟩
theorem Chg.tree {nu sz k : Nat} {f g : Nat -> Int} (a : Chg nu f k g) {h u : Nat} {l : List Pr} {Q : List Nat} (t : Tr nu sz f h u l Q) (hq : ∀ v ∈ Q, ask nu f v ≠ 0) : Tr nu sz g h u l Q := t.same fun v hv => a.sam v (hq v hv)
theorem Tr.asked {nu sz : Nat} {f : Nat -> Int} : ∀ {h u : Nat} {l : List Pr} {Q : List Nat}, Tr nu sz f h u l Q -> ∀ v ∈ Q, ask nu f v ≠ 0
 | 0, _, _, _, x, _, _ => x.elim
 | h + 1, u, l, Q, ⟨n, Q', s, x, e⟩, v, hv => by
  rw [e] at hv
  rcases List.mem_cons.1 hv with rfl | hv
  ·rw [s.ak]
   have := n.size_pos
   omega
  ·rcases x with ⟨_, _, _, rfl⟩ | ⟨h2, B, ks, e1, F⟩
   ·cases hv
   ·rw [F.2.2.1] at hv
    obtain ⟨r, hr, hv⟩ := List.mem_flatten.1 hv
    obtain ⟨k, hk, rfl⟩ := List.mem_map.1 hr
    exact (F.1 k hk).asked v hv
theorem Chg.tr {nu sz k : Nat} {f g : Nat -> Int} (a : Chg nu f k g) {h u : Nat} {l : List Pr} {Q : List Nat} (t : Tr nu sz f h u l Q) : Tr nu sz g h u l Q := a.tree t t.asked
theorem Chg.un {nu sz k : Nat} {f g : Nat -> Int} (a : Chg nu f k g) {h h' : Nat} {n : Nd} {l : List Pr} {Q : List Nat} (t : Un nu (Tr nu sz f h) h' n l Q) : Un nu (Tr nu sz g h) h' n l Q := t.mono fun _ _ _ x _ => a.tr x
theorem Chg.fo {nu sz k : Nat} {f g : Nat -> Int} (a : Chg nu f k g) {h : Nat} {B : List ByteArray} {ks : List (Nat × List Pr × List Nat)} {l : List Pr} {Q : List Nat} (F : For (Tr nu sz f h) B ks l Q) : For (Tr nu sz g h) B ks l Q := ⟨fun k hk => a.tr (F.1 k hk), F.2⟩
def wrt (nu : Nat) (g : Nat -> Int) (u : Nat) (n : Nd) : Nat -> Int := gwN g (fi nu + 8 * u) (fun i => n.wds.getD i 0) 0 n.size
theorem lv2 {x : Nat} (h : x <= 32) : lv x <= 2 := by
 unfold lv
 split
 ·omega
 ·split
  ·omega
  ·omega
theorem lv2b {x : Nat} (h : x <= 32) : 2 ^ lv x <= 4 := by
 have := Nat.pow_le_pow_right (n := 2) (by omega) (lv2 h)
 exact this
theorem wrote {nu sz : Nat} {f g : Nat -> Int} {u : Nat} {n : Nd} (geo : Geo nu sz) (t : Took nu f n.size u g) (ok : n.Ok) (le : n.size <= 32) : Std nu sz (wrt nu g u n) u n /\ Chg nu f 1 (wrt nu g u n) := by
 have h1 := n.size_pos
 have hw : n.wds.length = n.size := n.wds_len ok.kok
 obtain ⟨c, e, hc⟩ := t.blk
 have hp := lv_holds n.size (by omega)
 have hb := lv2b le
 have hroom := geo.room
 have hun : u + 2 ^ lv n.size <= nu := by
  have h3 : (c + 1) * 2 ^ lv n.size <= nu / 2 ^ lv n.size * 2 ^ lv n.size := Nat.mul_le_mul_right _ hc
  have h4 := Nat.div_mul_le_self nu (2 ^ lv n.size)
  rw [Nat.add_mul] at h3
  omega
 have lo : ∀ i, i < fi nu -> wrt nu g u n i = g i := fun i hi => by
  unfold wrt gwN
  rw [if_neg (by omega)]
 have ea : ask nu (wrt nu g u n) = setK (ask nu f) u n.size := (ask_own lo).trans t.ak
 have st : HpS nu (wrt nu g u n) := t.st.own lo
 have au : ask nu (wrt nu g u n) u = n.size := by rw [ea]; simp [setK]
 refine ⟨⟨au, le, by omega, fun i x hx => ?_, ok⟩, st, fun v hv => ?_, ?_, ?_, fun hl v => ?_, fun i i1 i2 => ?_⟩
 ·have hi := (List.getElem?_eq_some_iff.1 hx).1
  unfold wrt gwN
  rw [if_pos (by omega), show 0 + (fi nu + 8 * u + i - (fi nu + 8 * u)) = i by omega]
  simp [List.getD, hx]
 ·have hne : v ≠ u := fun e => hv (by rw [e]; exact t.was)
  have av : ask nu (wrt nu g u n) v = ask nu f v := by rw [ea]; simp [setK, hne]
  refine ⟨av, fun i hi => ?_⟩
  have hx := lv_holds _ (st.inv.asks v (by omega)).2.1
  have hap : fi nu + 8 * v + i < fi nu + 8 * u \/ fi nu + 8 * u + 8 * 2 ^ lv n.size <= fi nu + 8 * v + i := by
   rcases Nat.lt_or_gt_of_ne hne with h | h
   ·have := st.inv.apartB (u := v) (v := u) (by omega) (by omega) h
    omega
   ·have := st.inv.apartB (u := u) (v := v) (by omega) (by omega) h
    rw [au] at this
    omega
  unfold wrt gwN
  rw [if_neg (by omega)]
  exact t.keep _ (by omega) hap
 ·have := cnt_set (K := ask nu f) (u := u) (nu := nu) (by omega) n.size
  rw [t.was] at this
  rw [ea]
  simp at this
  rw [if_neg (by omega)] at this
  omega
 ·have := inP_lay (nu := nu) (K := ask nu f) (x := n.size) (b := c) hc rfl (by omega) (by rw [<- e]; exact t.was)
  rw [<- e] at this
  rw [ea, this]
  omega
 ·rw [ea]
  unfold setK
  split
  ·exact le
  ·exact hl v
 ·rw [lo i (by have := geo.b; omega)]
  exact t.root i i1 i2
theorem roomy2 {nu : Nat} {f : Nat -> Int} {x : Nat} (s : HpS nu f) (hx : x <= 32) (hl : ∀ u, ask nu f u <= 32) (hc : cnt nu (ask nu f) < nu / 4) (hf : ∀ j, lv x <= j -> j < 7 -> ∀ c, fre nu f j c = false) : False :=
 s.inv.roomy (m := 2) (k := lv x) (by omega) (lv2 hx) (fun u _ => lv2 (hl u)) hc hf

section
structure Cg (nu sz : Nat) (w0 : World) (hb sb b : Nat) (T0 : Tay) (A : Ab) (cb : Nat) (w : World) (T : Tay) (P : List (Int × Int)) (tv : Value) (m : Nat) : Prop where
 on : Onx w0 sb b T0 w T sz A P false
 hp : Hp nu sz w hb sb b T A P
 new : w0.heap.size <= cb
 hb0 : hb < w0.heap.size
 z0 : 0 < w0.heap.size
 ncb : ¬ tfoot sb b T cb
 ob : w.heap[cb]? = some (.cells #[ptr sb, ptr hb, tv] 72 (0, 0))
 row : ∃ xs, w.ownsRow w0.heap.size 3 1 tv m xs
 nrow : ∀ k, tv.ownBlock = some k -> k ≠ cb /\ ¬ tfoot sb b T k
def Off (sb b : Nat) (T : Tay) (cb : Nat) (tv : Value) (w : World) (k : Nat) : Prop := k < w.heap.size /\ ¬ tfoot sb b T k /\ k ≠ cb /\ tv.ownBlock ≠ some k
section
variable {nu sz : Nat} {w w' w0 : World} {hb sb b cb m : Nat} {T T0 T' : Tay} {A : Ab} {P P' : List (Int × Int)} {tv : Value} {g : Nat -> Int}
theorem Cg.lt (c : Cg nu sz w0 hb sb b T0 A cb w T P tv m) : cb < w.heap.size := World.block_lt_of_cell? _ ⟨cb, 0, none⟩ (cOo c.ob 0)
theorem Cg.still (c : Cg nu sz w0 hb sb b T0 A cb w T P tv m) (f : St w w') : Cg nu sz w0 hb sb b T0 A cb w' T P tv m := by
 obtain ⟨xs, r⟩ := c.row
 exact ⟨c.on.quiet f, c.hp.still f, c.new, c.hb0, c.z0, c.ncb, f.obj c.ob id, ⟨xs, own_still r f⟩, c.nrow⟩
theorem Off.still {k : Nat} (h : Off sb b T cb tv w k) (f : St w w') : w'.heap[k]? = w.heap[k]? /\ Off sb b T cb tv w' k := ⟨f.block k h.1 id, Nat.lt_of_lt_of_le h.1 f.size, h.2⟩
theorem Cg.fresh (c : Cg nu sz w0 hb sb b T0 A cb w T P tv m) {k : Nat} (h1 : w.heap.size <= k) (h2 : k < w'.heap.size) : Off sb b T cb tv w' k := by
 obtain ⟨xs, r⟩ := c.row
 exact ⟨h2, fun x => by have := c.hp.st.lt k x; omega, fun e => by have := c.lt; omega, fun e => by have := (r.lt k e).2; omega⟩
theorem Cg.store (c : Cg nu sz w0 hb sb b T0 A cb w T P tv m) (o : Onx w sb b T w' T' sz A P' false) : Cg nu sz w0 hb sb b T0 A cb w' T' P' tv m /\ ∀ k, Off sb b T cb tv w k -> w'.heap[k]? = w.heap[k]? /\ Off sb b T' cb tv w' k := by
 obtain ⟨xs, r⟩ := c.row
 refine ⟨⟨c.on.trans o, c.hp.call o, c.new, c.hb0, c.z0, o.other c.lt c.ncb, o.fr.obj c.ob c.ncb, ⟨xs, owns_same r fun k hk => o.fr.block k (r.lt k hk).2 (c.nrow k hk).2⟩, fun k hk => ⟨(c.nrow k hk).1, o.other (r.lt k hk).2 (c.nrow k hk).2⟩⟩, fun k hk => ⟨o.fr.block k hk.1 hk.2.1, Nat.lt_of_lt_of_le hk.1 o.fr.size, o.other hk.1 hk.2.1, hk.2.2⟩⟩
end
end

section
theorem infoN : (Tryz.prog.info? 3).map (fun i => (i.zero, i.size, i.bytes)) = some (some (.int .i64 0), 1, 8) := by kernel_rfl
def Keeps (sb b : Nat) (T : Tay) (cb : Nat) (tv : Value) (w : World) (T' : Tay) (tv' : Value) (w' : World) : Prop := w.heap.size <= w'.heap.size /\ ∀ k, Off sb b T cb tv w k -> w'.heap[k]? = w.heap[k]? /\ Off sb b T' cb tv' w' k
theorem Keeps.trans {sb b cb : Nat} {T T1 T2 : Tay} {tv tv1 tv2 : Value} {w w1 w2 : World} (h : Keeps sb b T cb tv w T1 tv1 w1) (g : Keeps sb b T1 cb tv1 w1 T2 tv2 w2) : Keeps sb b T cb tv w T2 tv2 w2 := ⟨Nat.le_trans h.1 g.1, fun k hk => ⟨(g.2 k (h.2 k hk).2).1.trans (h.2 k hk).1, (g.2 k (h.2 k hk).2).2⟩⟩
theorem Keeps.still {sb b cb : Nat} {T : Tay} {tv : Value} {w w' : World} (f : St w w') : Keeps sb b T cb tv w T tv w' := ⟨f.size, fun _ hk => hk.still f⟩
section
variable {nu sz : Nat} {w w' w0 : World} {hb sb b cb m : Nat} {T T0 T' : Tay} {A : Ab} {P P' : List (Int × Int)} {tv : Value}
theorem Cg.own (c : Cg nu sz w0 hb sb b T0 A cb w T P tv m) {q : Nat} (f : Fr (fun k => k = q) w w') (ho : Off sb b T cb tv w q) (h0 : w0.heap.size <= q) : Cg nu sz w0 hb sb b T0 A cb w' T P tv m := by
 obtain ⟨xs, r⟩ := c.row
 exact ⟨c.on.turn f (fun k hk => by rw [hk]; exact ho.2.1) (fun k hk => by rw [hk]; exact h0), c.hp.turn f (fun k hk => by rw [hk]; exact ho.2.1) (fun e => by have := c.hb0; omega) (fun e => by have := c.z0; omega), c.new, c.hb0, c.z0, c.ncb, f.obj c.ob (fun e => ho.2.2.1 e.symm), ⟨xs, owns_same r fun k hk => f.block k (r.lt k hk).2 (fun e => ho.2.2.2 (e ▸ hk))⟩, c.nrow⟩
structure Wrt (nu sz : Nat) (w0 : World) (hb sb b : Nat) (T0 : Tay) (A : Ab) (cb : Nat) (w : World) (T : Tay) (P : List (Int × Int)) (tv : Value) (m : Nat) (w' : World) (g : Nat -> Int) (k : Nat) : Prop where
 ex : ∃ T' P' tv', Cg nu sz w0 hb sb b T0 A cb w' T' P' tv' (m + k) /\ says P' A = g /\ P'.length <= P.length + 80 * k /\ Keeps sb b T cb tv w T' tv' w'
 ch : Chg nu (says P A) k g
set_option maxRecDepth 100000 in
theorem y_write (c : Cg nu sz w0 hb sb b T0 A cb w T P tv m) (s : HpS nu (says P A)) {nv : Value} {n : Nd} (nd : NdO (Off sb b T cb tv w) w nv n) (ok : n.Ok) (le : n.size <= 32) (pl : n.pairs < 1000000) (hm : m <= 100) (hP : P.length + 80 <= 6144) (room : cnt nu (ask nu (says P A)) < nu / 4) (low : ∀ u, ask nu (says P A) u <= 32) :
  Calls Tryz.prog 76 #[ptr cb, nv] w fun e w' => ∃ u g, e = .returned (kdV (fi nu + 8 * u) n.pairs) /\ Std nu sz g u n /\ Wrt nu sz w0 hb sb b T0 A cb w T P tv m w' g 1 := by
 have hl : n.wds.length = n.size := n.wds_len ok.kok
 have h1 := n.size_pos
 have hit : n.items.length <= 32 := by
  have : n.size = hsz n.items.length (kb n.keys) := rfl
  unfold hsz need at this
  omega
 obtain ⟨W, hW⟩ : ∃ W, w.alloc (.cells #[.int .u64 0, .int .i64 0] 131) = W := ⟨_, rfl⟩
 have fW : St w W := hW ▸ (Fr.refl _ w).alloc _
 have oW : W.heap[w.heap.size]? = some (.cells #[.int .u64 0, .int .i64 0] 131 (0, 0)) := hW ▸ heap_alloc_new w _
 have WD := y_words (nd.kept fun k hk => hk.still fW) ok.kok (by omega) ok.form ok.h16
 have HW := Hd hW
 have HX := Hd (ai fW oW)
 have HC := Hd (ai c (ai s (ai nd (ai ok (ai room (ai low pl))))))
 have HL := Hd hl
 clear hW fW oW c s nd ok room low pl hl
 generalize hrs : n.size = rs at *
 go_enter Tryz.func76, Tryz.ntmps76
 go_wp2_with fail
 rw [uh HW]
 refine WD.mono ?_
 rintro e w1 ⟨v1, rfl, hv1, f1⟩
 clear WD HW
 obtain ⟨a1, c1, rfl⟩ := rows_form hv1
 obtain ⟨fW, oW⟩ := uh HX
 obtain ⟨c, s, nd, ok, room, low, pl⟩ := uh HC
 have f01 : St w w1 := fW.trans' f1 nE
 have cg1 := c.still f01
 have hN1 : Sl w1 1 a1 rs c1 (vals .u64 n.wds) := by
  have := sl_of_row hv1 (vals_one _ _)
  rw [uh HL] at this
  exact this
 have hb1 := own_block hv1
 have TK := h_takeP cg1.hp s rs h1 (by omega) (by have := lv2b le; omega)
 have k1 : w1.cell? ⟨cb, 1, none⟩ = some (ptr hb) := cOo cg1.ob 1
 have oW1 := f1.obj oW id
 rw [show n.wds.length = rs from uh HL]
 have HY := Hd (ai cg1 (ai hN1 (ai hb1 (ai f01 (ai oW1 f1)))))
 clear cg1 hN1 hb1 f01 oW1 f1 hv1 c s nd ok room low pl fW oW
 go_wp2_with (first | (go_at_call 128; refine TK.mono ?_) | fail)
 clear TK k1
 rintro e w2 (⟨u, g, rfl, ⟨T2, P2, o2, e2, l2⟩, tk⟩ | ⟨_, _, nf⟩)
 rotate_left
 ·obtain ⟨c, s, nd, ok, room, low, pl⟩ := uh HC
  exact (roomy2 s le low room nf).elim
 obtain ⟨pz, hpz⟩ : ∃ pz : Nat, pz = fi nu + 8 * u := ⟨_, rfl⟩
 rw [show ((fi nu : Int) + (u : Int) * 8) = (pz : Int) by omega]
 obtain ⟨cg1, hN1, hb1, f01, oW1, f1⟩ := uh HY
 obtain ⟨cs, ks⟩ := cg1.store o2
 obtain ⟨xs, r⟩ := cs.row
 have hsz02 : w0.heap.size <= w2.heap.size := cs.on.fr.size
 obtain ⟨v3, w3, hap, hw3, f3, hloc⟩ := run_val infoN rfl (by decide) Tryz.underlying45 w2 w0.heap.size tv m xs r (.int .i64 (pz : Int)) rfl (by omega) hsz02
 obtain ⟨a3, c3, rfl⟩ := rows_form hw3
 have ncb2 : tv.ownBlock ≠ some cb := fun e => (cs.nrow cb e).1 rfl
 have o3 := f3.obj cs.ob ncb2
 have k2 : w2.cell? ⟨cb, 2, none⟩ = some tv := cOo cs.ob 2
 have k3 : w3.cell? ⟨cb, 2, none⟩ = some tv := cOo o3 2
 have z3 : w3.frozen? ⟨cb, 2, none⟩ = false := by simp [World.frozen?, o3]
 have zn2 : ∀ x, w2.frozen? ⟨cb, x, none⟩ = false := fun x => by simp [World.frozen?, cs.ob]
 obtain ⟨w4, hw4⟩ : ∃ w4, w3.setCell ⟨cb, 2, none⟩ (.slice a3 (m + 1) c3) = w4 := ⟨_, rfl⟩
 have f4 : Fr (fun k => k = cb) w3 w4 := hw4 ▸ (Fr.refl (fun k => k = cb) w3).setCell (.inl rfl) _
 have f24 : Fr (fun k => k = cb \/ tv.ownBlock = some k) w2 w4 := (f3.mono (fun k hk => .inl (Or.inr hk))).trans' f4 (fun k hk => .inl (.inl hk))
 have hge : ∀ k, (k = cb \/ tv.ownBlock = some k) -> w0.heap.size <= k := fun k hk => by
  rcases hk with rfl | hk
  ·exact cs.new
  ·exact (r.lt k hk).1
 have hnt : ∀ k, (k = cb \/ tv.ownBlock = some k) -> ¬ tfoot sb b T2 k := fun k hk => by
  rcases hk with rfl | hk
  ·exact cs.ncb
  ·exact (cs.nrow k hk).2
 have ob4 : w4.heap[cb]? = some (.cells #[ptr sb, ptr hb, .slice a3 (m + 1) c3] 72 (0, 0)) := by
  rw [<- hw4]
  exact heap_setCell_same w3 cb 2 _ _ (.slice a3 (m + 1) c3) o3
 have cg4 : Cg nu sz w0 hb sb b T0 A cb w4 T2 P2 (.slice a3 (m + 1) c3) (m + 1) := by
  refine ⟨cs.on.turn f24 hnt hge, cs.hp.turn f24 hnt (fun h => by have := hge _ h; have := cs.hb0; omega) (fun h => by have := hge _ h; have := cs.z0; omega), cs.new, cs.hb0, cs.z0, cs.ncb, ob4, ⟨xs ++ [.int .i64 (pz : Int)], ?_⟩, fun k hk => ?_⟩
  ·refine owns_same hw3 fun k hk => f4.block k (hw3.lt k hk).2 (fun e => ?_)
   rcases hloc with h | h
   ·rw [h] at hk; exact ncb2 (e ▸ hk)
   ·rw [h] at hk
    have := cs.lt
    have : w2.heap.size + 1 = k := by simpa using hk
    omega
  ·rcases hloc with h | h
   ·rw [h] at hk; exact cs.nrow k hk
   ·rw [h] at hk
    have h5 : w2.heap.size + 1 = k := by simpa using hk
    exact ⟨by have := cs.lt; omega, fun x => by have := cs.hp.st.lt k x; omega⟩
 have ks4 : ∀ k, Off sb b T cb tv w1 k -> w4.heap[k]? = w1.heap[k]? /\ Off sb b T2 cb (.slice a3 (m + 1) c3) w4 k := fun k hk => by
  obtain ⟨h1, h2, h3, h4, h5⟩ := ks k hk
  refine ⟨(f24.block k h2 (fun x => x.elim h4 h5)).trans h1, Nat.lt_of_lt_of_le h2 f24.size, h3, h4, fun e => ?_⟩
  rcases hloc with h | h
  ·rw [h] at e; exact h5 e
  ·rw [h] at e
   have : w2.heap.size + 1 = k := by simpa using e
   omega
 have hoff : ∀ x, a1 = some x -> Off sb b T cb tv w1 x.block := fun x hx => (uh HC).1.fresh (Nat.le_trans (uh HX).1.size (hb1 x hx).1) (hb1 x hx).2
 have hoW : Off sb b T cb tv w1 w.heap.size := (uh HC).1.fresh (Nat.le_refl _) (World.block_lt_of_cell? _ _ (cOo oW1 0))
 have hN4 : Sl w4 1 a1 rs c1 (vals .u64 n.wds) := hN1.same fun x hx => (ks4 _ (hoff x hx)).1
 have oW4 := (ks4 _ hoW).1.trans oW1
 have kp4 : Keeps sb b T cb tv w T2 (.slice a3 (m + 1) c3) w4 := (Keeps.still f01).trans ⟨Nat.le_trans o2.fr.size f24.size, ks4⟩
 have HQ := Hd (ai cg4 (ai hN4 (ai oW4 (ai kp4 (ai (fun x hx => (ks4 _ (hoff x hx)).2) (ai (ks4 _ hoW).2 (ai tk (ai e2 l2))))))))
 have HAP := Hd hap; have HW4 := Hd hw4
 have hpz4 : pz < 60000 := by
  have := cs.hp.hp.geo.b
  obtain ⟨cc, h1, h2⟩ := tk.blk
  have h3 := Nat.div_mul_le_self nu (2 ^ lv rs)
  have h4 : cc * 2 ^ lv rs <= nu / 2 ^ lv rs * 2 ^ lv rs := Nat.mul_le_mul_right _ (by omega)
  omega
 have HZ := Hd hpz
 clear cg1 hN1 hb1 f01 oW1 f1 cs ks r hw3 f3 hloc o3 f4 f24 hge hnt cg4 ks4 hoff hoW hN4 oW4 kp4 tk e2 l2 hap hw4 ob4 o2 HY ncb2 hpz hsz02
 go_wp2_with (first | (at_builtin; refine wpList_append_run rfl (.tmp 22) (.tmp 24) 45 rfl _ _ rfl rfl _ w3 (uh HAP) ?_) | fail)
 rw [uh HW4]
 clear HAP HW4 k2 k3 z3 zn2
 go_loopw [30] (fun iv wr => ∃ (j : Nat) (T' : Tay) (P' : List (Int × Int)), j <= rs /\ iv = .int .i64 j /\ Onx w4 sb b T2 wr T' sz A P' false /\ P'.length <= P2.length + j /\ says P' A = gwN g pz (fun i => n.wds.getD i 0) 0 j) (fun iv _ => rs - (intOf iv).toNat)
 case atStart =>
  obtain ⟨cg4, hN4, oW4, kp4, ho4, hw4, tk, e2, l2⟩ := uh HQ
  exact ⟨0, T2, P2, by omega, rfl, Onx.start cg4.hp.st, by omega, by rw [gw_zero]; exact e2⟩
 case round =>
  obtain ⟨j, T', P', hj, rfl, on, el, eq⟩ := hrel
  generalize wr = wq at *
  clear wr
  obtain ⟨cg4, hN4, oW4, kp4, ho4, hw4, tk, e2, l2⟩ := uh HQ
  obtain ⟨cgq, kq⟩ := cg4.store on
  have hNq : Sl wq 1 a1 rs c1 (vals .u64 n.wds) := hN4.same fun x hx => (kq _ (ho4 x hx)).1
  have k0 : wq.cell? ⟨cb, 0, none⟩ = some (ptr sb) := cOo cgq.ob 0
  by_cases hlt : j < rs
  ·have hlt' : (j : Int) < rs := by omega
   obtain ⟨vv, hvv⟩ : ∃ vv, n.wds.getD j 0 = vv := ⟨_, rfl⟩
   obtain ⟨xb, xo, rfl, cz⟩ := hNq.cells j (.int .u64 (vv : Nat)) (by
    have hj' : j < n.wds.length := by rw [uh HL]; exact hlt
    rw [<- hvv]
    simp [vals, List.getD, List.getElem?_eq_getElem hj'])
   have wz : IntKind.i64.wrap ((pz : Int) + j) = (pz : Int) + j := (wrap_small _ (by omega) (by omega)).1
   have PU : Calls Tryz.prog 110 #[ptr sb, .int .i64 ((pz : Int) + j), .int .u64 (vv : Nat)] wq fun e w' => e = .returned (.tuple #[]) /\ ∃ (T' : Tay) (P' : List (Int × Int)), Onx w4 sb b T2 w' T' sz A P' false /\ P'.length <= P2.length + (j + 1) /\ says P' A = gwN g pz (fun i => n.wds.getD i 0) 0 (j + 1) := by
    have hb2 := lv2b le
    have hfit : pz + rs <= sz := by
     have := cg4.hp.hp.geo.b
     obtain ⟨cc, h1, h2⟩ := tk.blk
     have hpw := lv_holds rs (by omega)
     have h3 : (cc + 1) * 2 ^ lv rs <= nu / 2 ^ lv rs * 2 ^ lv rs := Nat.mul_le_mul_right _ h2
     have h4 := Nat.div_mul_le_self nu (2 ^ lv rs)
     have h5 := uh HZ
     rw [Nat.add_mul] at h3
     omega
    have := cgq.hp.put (by omega) (pz + j) (by omega) ((vv : Nat) : Int)
    rw [show ((pz + j : Nat) : Int) = (pz : Int) + j by omega, eq, show ((vv : Nat) : Int) = (((fun i => n.wds.getD i 0) (0 + j) : Nat) : Int) by rw [Nat.zero_add]; simp only [hvv], gw_step] at this
    rw [show (((fun i => n.wds.getD i 0) (0 + j) : Nat) : Int) = ((vv : Nat) : Int) by rw [Nat.zero_add]; simp only [hvv]] at this
    refine this.mono ?_
    rintro e w' ⟨rfl, T5, P5, o5, e5, l5⟩
    exact ⟨rfl, T5, P5, on.trans o5, by omega, e5⟩
   clear cg4 hN4 oW4 kp4 ho4 hw4 tk e2 l2 cgq kq hNq on el eq hvv
   go_wp2_with (first | (go_at_call 110; refine PU.mono ?_; rintro e w6 ⟨rfl, T6, P6, h6⟩) | fail)
   exact ⟨⟨j + 1, T6, P6, by omega, by simp, h6.1, h6.2.1, h6.2.2⟩, by simp [intOf]; omega⟩
  ·have e : j = rs := by omega
   subst e
   have hlt' : ¬ (j : Int) < j := by omega
   have wpz : IntKind.u64.wrap (pz : Int) = pz := by rw [IntKind.wrap_u64]; omega
   have oWq := (kq _ hw4).1.trans oW4
   have hwq := (kq _ hw4).2
   have kpq := kp4.trans ⟨on.fr.size, kq⟩
   obtain ⟨c, s, nd, ok, room, low, pl⟩ := uh HC
   have ndq := nd.kept kpq.2
   have HFIN := @Hd _ (fun (w8 : World) (f8 : St wq w8) (w9 : World) (f9 : Fr (fun k => k = w.heap.size) w8 w9) => show ∃ u g, Ending.returned (kdV pz n.pairs) = .returned (kdV (fi nu + 8 * u) n.pairs) /\ Std nu sz g u n /\ Wrt nu sz w0 hb sb b T0 A cb w T P tv m w9 g 1 from by
    have tk' : Took nu (says P A) n.size u g := by rw [hrs]; exact tk
    obtain ⟨st, ch⟩ := wrote c.hp.hp.geo tk' ok (by rw [hrs]; exact le)
    refine ⟨u, wrt nu g u n, by rw [uh HZ], st, ⟨T', P', _, (cgq.still f8).own f9 (hwq.still f8).2 c.on.fr.size, ?_, ?_, ?_⟩, ch⟩
    ·rw [eq]
     unfold wrt
     rw [hrs, uh HZ]
    ·have := lv2b le
     omega
    ·refine ⟨Nat.le_trans kpq.1 (Nat.le_trans f8.size f9.size), fun k hk => ?_⟩
     obtain ⟨h1, h2⟩ := kpq.2 k hk
     obtain ⟨h3, h4⟩ := h2.still f8
     have hk1 : k < w.heap.size := hk.1
     exact ⟨(f9.block k h4.1 (fun e => by omega)).trans (h3.trans h1), Nat.lt_of_lt_of_le h4.1 f9.size, h4.2⟩)
   clear c s nd ok room low cgq kq kp4 ho4 hw4 tk e2 l2 on el eq hNq hN4 cg4 oW4 HQ k0 hwq kpq
   cases n using Nd.cs with
   | lf l =>
    obtain ⟨a, cc, rfl, hL, _⟩ := ndq
    have LP := fun w' => l_pairs a l.length cc w'
    have d0 : wq.cell? ⟨w.heap.size, 0, none⟩ = some (.int .u64 0) := cOo oWq 0
    have d1 : wq.cell? ⟨w.heap.size, 1, none⟩ = some (.int .i64 0) := cOo oWq 1
    have rz : ∀ o, wq.frozen? ⟨w.heap.size, o, none⟩ = false := fun o => by simp [World.frozen?, oWq]
    go_wp2_with fail
    refine (LP _).mono ?_
    rintro e w8 ⟨rfl, rfl⟩
    go_wp2_with fail
    have f8 : St w8 w8 := Fr.refl _ _
    have o8 := oWq
    have oF := heap_setCell_same _ w.heap.size 1 _ _ (.int .i64 (l.length : Nat)) (heap_setCell_same w8 w.heap.size 0 _ _ (.int .u64 (pz : Nat)) o8)
    have f9 : Fr (fun k => k = w.heap.size) w8 ((w8.setCell ⟨w.heap.size, 0, none⟩ (.int .u64 (pz : Nat))).setCell ⟨w.heap.size, 1, none⟩ (.int .i64 (l.length : Nat))) := ((Fr.refl (fun k => k = w.heap.size) w8).setCell (.inl rfl) _).setCell (.inl rfl) _
    refine bodyPost_ret (results_cell_row Tryz.results76 _ _ w.heap.size 131 #[.int .u64 pz, .int .i64 (l.length : Nat)] (0, 0) _ (by rfl) oF Tryz.underlying131 rfl (by kernel_rfl)) rfl ?_
    exact uh HFIN w8 f8 _ f9
   | br hh B ks =>
    obtain ⟨ba, bc, ka, kc, rfl, hB, hK, _, _⟩ := ndq
    have LP := b_pairs hh ba B.length bc ka kc ks wq hK (by simp [Nd.items] at hit; omega) pl
    generalize hps : (ks.map (·.2)).sum = ps at *
    have HO := Hd oWq
    clear hB hK oWq
    go_wp2_with fail
    refine LP.mono ?_
    rintro e w8 ⟨rfl, f8⟩
    have o8 := f8.obj (uh HO) id
    have d0 : w8.cell? ⟨w.heap.size, 0, none⟩ = some (.int .u64 0) := cOo o8 0
    have d1 : w8.cell? ⟨w.heap.size, 1, none⟩ = some (.int .i64 0) := cOo o8 1
    have rz : ∀ o, w8.frozen? ⟨w.heap.size, o, none⟩ = false := fun o => by simp [World.frozen?, o8]
    go_wp2_with fail
    have oF := heap_setCell_same _ w.heap.size 1 _ _ (.int .i64 (ps : Nat)) (heap_setCell_same w8 w.heap.size 0 _ _ (.int .u64 (pz : Nat)) o8)
    have f9 : Fr (fun k => k = w.heap.size) w8 ((w8.setCell ⟨w.heap.size, 0, none⟩ (.int .u64 (pz : Nat))).setCell ⟨w.heap.size, 1, none⟩ (.int .i64 (ps : Nat))) := ((Fr.refl (fun k => k = w.heap.size) w8).setCell (.inl rfl) _).setCell (.inl rfl) _
    refine bodyPost_ret (results_cell_row Tryz.results76 _ _ w.heap.size 131 #[.int .u64 pz, .int .i64 (ps : Nat)] (0, 0) _ (by rfl) oF Tryz.underlying131 rfl (by kernel_rfl)) rfl ?_
    have HF := uh HFIN w8 f8 _ f9
    rw [show (Nd.br hh B ks).pairs = ps from hps] at HF ⊢
    exact HF
end
end
end Go.Proofs.YtbpndmghlnadiaaGreatDoor
