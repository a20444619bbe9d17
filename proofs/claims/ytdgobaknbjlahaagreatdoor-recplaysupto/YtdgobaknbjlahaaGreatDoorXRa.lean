/- Joined: Ra Rb Rc Rd. -/
import Derived.Test.YtdgobaknbjlahaaGreatDoorXWd
import Derived.Test.YtdgobaknbjlahaaGreatDoorGHn
import Derived.Deep.RegionHeld
import Derived.Test.YtdgobaknbjlahaaGreatDoorGLh
import Derived.Maps.AppendAt
namespace Go.Proofs.YtdgobaknbjlahaaGreatDoor
open Go.RowKit

section
/-- The kind of a piece: the first of its record, or a further one; how many words stand ahead of its bytes. -/
def kdN (fr : Bool) : Nat := if fr then 1919247153 else 1919247147
def ahd (fr : Bool) : Nat := if fr then 2 else 1
/-- How many words a piece has of which n bytes are in it and behind it; how many are behind it. -/
def szN (fr : Bool) (n : Nat) : Nat := min 64 (ahd fr + (n + 7) / 8)
def bhN (fr : Bool) (n : Nat) : Nat := n - (64 - ahd fr) * 8
/-- What a piece begins with. -/
def wrN (fr : Bool) (n q : Nat) : Nat := kdN fr * 4294967296 + n * 65536 + q

theorem sz_b (fr : Bool) (n : Nat) : 1 ≤ szN fr n ∧ szN fr n ≤ 64 := by unfold szN ahd; cases fr <;> simp <;> omega
theorem bh_le (fr : Bool) (n : Nat) : bhN fr n ≤ n := by unfold bhN; omega

/-- A part, as it lies in memory. -/
abbrev ptV (at_ : Int) (fr : Bool) (n : Nat) (nx : Int) : Value := .agg #[.int .i64 at_, .int .u64 (kdN fr), .int .i64 n, .int .i64 nx]
abbrev ptO (at_ : Int) (fr : Bool) (n : Nat) (nx : Int) : Obj := .cells #[.int .i64 at_, .int .u64 (kdN fr), .int .i64 n, .int .i64 nx] 71

set_option maxHeartbeats 400000 in
theorem p_ahead (at_ : Int) (fr : Bool) (n : Nat) (nx : Int) (w : World) : Calls Tryz.prog 33 #[ptV at_ fr n nx] w fun e w' => e = .returned (.int .i64 (ahd fr)) ∧ w' = w.alloc (ptO at_ fr n nx) := by
  cases fr
  · show Calls _ _ #[.agg #[.int .i64 at_, .int .u64 1919247147, .int .i64 n, .int .i64 nx]] w _
    go_enter Tryz.func33, Tryz.ntmps33
    go_wp2
    go_ret
    exact ⟨rfl, rfl⟩
  · show Calls _ _ #[.agg #[.int .i64 at_, .int .u64 1919247153, .int .i64 n, .int .i64 nx]] w _
    go_enter Tryz.func33, Tryz.ntmps33
    go_wp2
    go_ret
    exact ⟨rfl, rfl⟩

theorem or_word (k n q : Nat) (hk : k < 4294967296) (hn : n < 65536) (hq : q < 65536) : bits .or .u64 (bits .or .u64 ((k * 4294967296 : Nat) : Int) ((n * 65536 : Nat) : Int)) ((q : Nat) : Int) = ((k * 4294967296 + n * 65536 + q : Nat) : Int) := by
  rw [u64_or_nat _ _ (by omega) (by omega)]
  have e1 : k * 4294967296 ||| n * 65536 = k * 4294967296 + n * 65536 := by
    have := Nat.two_pow_add_eq_or_of_lt (i := 32) (b := n * 65536) (by omega) k
    rw [show (2 : Nat) ^ 32 * k = k * 4294967296 by omega] at this
    exact this.symm
  rw [e1, u64_or_nat _ _ (by omega) (by omega)]
  have e2 : (k * 4294967296 + n * 65536) ||| q = k * 4294967296 + n * 65536 + q := by
    have := Nat.two_pow_add_eq_or_of_lt (i := 16) (b := q) (by omega) (k * 65536 + n)
    rw [show (2 : Nat) ^ 16 * (k * 65536 + n) = k * 4294967296 + n * 65536 by omega] at this
    exact this.symm
  rw [e2]

set_option maxHeartbeats 400000 in
theorem p_word (at_ : Int) (fr : Bool) (n q : Nat) (hn : n ≤ 4096) (hq : q < 65536) (w : World) : Calls Tryz.prog 31 #[ptV at_ fr n (8 * q : Nat)] w fun e w' => e = .returned (.int .u64 (wrN fr n q)) ∧ w' = w.alloc (ptO at_ fr n (8 * q : Nat)) := by
  have hk : kdN fr < 4294967296 := by unfold kdN; split <;> omega
  have OW := or_word (kdN fr) n q hk (by omega) hq
  unfold wrN
  unfold ptV ptO
  generalize kdN fr = k at *
  have w1 : IntKind.u64.wrap ((k : Int) * 4294967296) = ((k * 4294967296 : Nat) : Int) := by rw [IntKind.wrap_u64]; omega
  have w2 : IntKind.u64.wrap ((n : Int) * 65536) = ((n * 65536 : Nat) : Int) := by rw [IntKind.wrap_u64]; omega
  have e8 : ((8 * q : Nat) : Int) / 8 = (q : Int) := by omega
  generalize ((8 * q : Nat) : Int) = nx at *
  have HO := hide OW
  clear OW
  go_enter Tryz.func31, Tryz.ntmps31
  go_wp2
  go_ret
  refine ⟨?_, rfl⟩
  have := unhide HO
  simp only [Int.natCast_mul, Int.natCast_add] at this ⊢
  rw [← this]; rfl

set_option maxHeartbeats 1000000 in
theorem p_sizeX (at_ : Int) (fr : Bool) (n : Nat) (nx : Int) (hn : n ≤ 5000) (w : World) : Calls Tryz.prog 32 #[ptV at_ fr n nx] w fun e w' => e = .returned (.int .i64 (szN fr n)) ∧ w' = ((w.alloc (ptO at_ fr n nx)).alloc (ptO at_ fr n nx)).drew := by
  have AH := p_ahead at_ fr n nx
  have ND := wneed_ok n (by omega)
  have ha : ahd fr ≤ 2 := by unfold ahd; split <;> omega
  have hsz : szN fr n = min 64 (ahd fr + need n - 1) := by unfold szN need; rw [show ahd fr + (1 + (n + 7) / 8) - 1 = ahd fr + (n + 7) / 8 by omega]
  have hd : 1 ≤ need n ∧ need n ≤ 1000 := by unfold need; omega
  rw [hsz]
  unfold ptV ptO at *
  obtain ⟨W, hW⟩ : ∃ W, w.alloc (.cells #[.int .i64 at_, .int .u64 (kdN fr), .int .i64 n, .int .i64 nx] 71) = W := ⟨_, rfl⟩
  have fW : Still w W := hW ▸ (Fr.refl _ w).alloc _
  have bW : W.heap[w.heap.size]? = some (.cells #[.int .i64 at_, .int .u64 (kdN fr), .int .i64 n, .int .i64 nx] 71 (0, 0)) := hW ▸ heap_alloc_new w _
  have c0 : W.cell? ⟨w.heap.size, 0, none⟩ = some (.int .i64 at_) := cell_of_obj bW 0
  have c1 : W.cell? ⟨w.heap.size, 1, none⟩ = some (.int .u64 (kdN fr)) := cell_of_obj bW 1
  have c2 : W.cell? ⟨w.heap.size, 2, none⟩ = some (.int .i64 n) := cell_of_obj bW 2
  have c3 : W.cell? ⟨w.heap.size, 3, none⟩ = some (.int .i64 nx) := cell_of_obj bW 3
  have hm : min 64 ((ahd fr : Int) + need n - 1) = ((min 64 (ahd fr + need n - 1) : Nat) : Int) := by omega
  have HW := hide hW; have HF := hide fW; have HM := hide hm
  clear hW fW bW hsz hm
  generalize ahd fr = a at *
  generalize need n = d at *
  generalize kdN fr = k at *
  generalize min 64 (a + d - 1) = r at *
  go_enter Tryz.func32, Tryz.ntmps32
  go_wp2_with fail
  rw [unhide HW]
  generalize w.heap.size = g at *
  go_region_held (fun w' => w'.cell? ⟨g, 0, none⟩ = some (.int .i64 at_) ∧ w'.cell? ⟨g, 1, none⟩ = some (.int .u64 k) ∧ w'.cell? ⟨g, 2, none⟩ = some (.int .i64 n) ∧ w'.cell? ⟨g, 3, none⟩ = some (.int .i64 nx)) (go_keep) (first | (go_at_call 33; refine (AH _).mono ?_; rintro e w' ⟨rfl, rfl⟩) | (go_at_call 63; refine (ND _).mono ?_; rintro e w' ⟨rfl, rfl⟩))
  have w1 : IntKind.i64.wrap ((a : Int) + d) = (a : Int) + d := (wrap_small _ (by omega) (by omega)).1
  have w2 : IntKind.i64.wrap ((a : Int) + d - 1) = (a : Int) + d - 1 := (wrap_small _ (by omega) (by omega)).1
  rw [w1, w2, unhide HM]
  go_wp2
  go_ret
  exact ⟨rfl, by rw [unhide HW]⟩

set_option maxHeartbeats 1000000 in
theorem p_behindX (at_ : Int) (fr : Bool) (n : Nat) (nx : Int) (hn : n ≤ 5000) (w : World) : Calls Tryz.prog 62 #[ptV at_ fr n nx] w fun e w' => e = .returned (.int .i64 (bhN fr n)) ∧ w' = ((w.alloc (ptO at_ fr n nx)).alloc (ptO at_ fr n nx)).drew := by
  have AH := p_ahead at_ fr n nx
  have ha : ahd fr ≤ 2 := by unfold ahd; split <;> omega
  unfold bhN
  unfold ptV ptO at *
  obtain ⟨W, hW⟩ : ∃ W, w.alloc (.cells #[.int .i64 at_, .int .u64 (kdN fr), .int .i64 n, .int .i64 nx] 71) = W := ⟨_, rfl⟩
  have fW : Still w W := hW ▸ (Fr.refl _ w).alloc _
  have bW : W.heap[w.heap.size]? = some (.cells #[.int .i64 at_, .int .u64 (kdN fr), .int .i64 n, .int .i64 nx] 71 (0, 0)) := hW ▸ heap_alloc_new w _
  have c0 : W.cell? ⟨w.heap.size, 0, none⟩ = some (.int .i64 at_) := cell_of_obj bW 0
  have c1 : W.cell? ⟨w.heap.size, 1, none⟩ = some (.int .u64 (kdN fr)) := cell_of_obj bW 1
  have c2 : W.cell? ⟨w.heap.size, 2, none⟩ = some (.int .i64 n) := cell_of_obj bW 2
  have c3 : W.cell? ⟨w.heap.size, 3, none⟩ = some (.int .i64 nx) := cell_of_obj bW 3
  generalize ahd fr = a at *
  generalize kdN fr = k at *
  have hm : max 0 ((n : Int) - (64 - (a : Int)) * 8) = ((n - (64 - a) * 8 : Nat) : Int) := by omega
  have HW := hide hW; have HF := hide fW; have HM := hide hm
  clear hW fW bW hm
  generalize n - (64 - a) * 8 = r at *
  go_enter Tryz.func62, Tryz.ntmps62
  go_wp2_with fail
  rw [unhide HW]
  generalize w.heap.size = g at *
  go_region_held (fun w' => w'.cell? ⟨g, 0, none⟩ = some (.int .i64 at_) ∧ w'.cell? ⟨g, 1, none⟩ = some (.int .u64 k) ∧ w'.cell? ⟨g, 2, none⟩ = some (.int .i64 n) ∧ w'.cell? ⟨g, 3, none⟩ = some (.int .i64 nx)) (go_keep) (first | (go_at_call 33; refine (AH _).mono ?_; rintro e w' ⟨rfl, rfl⟩))
  have w1 : IntKind.i64.wrap (64 - (a : Int)) = 64 - (a : Int) := (wrap_small _ (by omega) (by omega)).1
  have w2 : IntKind.i64.wrap ((64 - (a : Int)) * 8) = (64 - (a : Int)) * 8 := (wrap_small _ (by omega) (by omega)).1
  have w3 : IntKind.i64.wrap ((n : Int) - (64 - (a : Int)) * 8) = (n : Int) - (64 - (a : Int)) * 8 := by rw [IntKind.wrap_i64]; omega
  rw [w1, w2, w3, unhide HM]
  go_wp2
  go_ret
  exact ⟨rfl, by rw [unhide HW]⟩
theorem still2 (w : World) (a b : Obj) : Still w ((w.alloc a).alloc b).drew := (((Fr.refl (fun _ => False) w).alloc a).alloc b).drewN 1
theorem p_size (at_ : Int) (fr : Bool) (n : Nat) (nx : Int) (hn : n ≤ 5000) (w : World) : Calls Tryz.prog 32 #[ptV at_ fr n nx] w fun e w' => e = .returned (.int .i64 (szN fr n)) ∧ Still w w' :=
  (p_sizeX at_ fr n nx hn w).mono fun _ _ h => ⟨h.1, h.2 ▸ still2 _ _ _⟩
theorem p_behind (at_ : Int) (fr : Bool) (n : Nat) (nx : Int) (hn : n ≤ 5000) (w : World) : Calls Tryz.prog 62 #[ptV at_ fr n nx] w fun e w' => e = .returned (.int .i64 (bhN fr n)) ∧ Still w w' :=
  (p_behindX at_ fr n nx hn w).mono fun _ _ h => ⟨h.1, h.2 ▸ still2 _ _ _⟩
end

section
/-- A part: its place, whether it is the first, the bytes in it and behind it, the place of the next. -/
structure Prt where
  at_ : Int
  fr : Bool
  n : Nat
  nx : Int
def prts : List Prt → List Value
  | [] => []
  | p :: l => .int .i64 p.at_ :: .int .u64 (kdN p.fr) :: .int .i64 p.n :: .int .i64 p.nx :: prts l
theorem prts_app (a b : List Prt) : prts (a ++ b) = prts a ++ prts b := by
  induction a with
  | nil => rfl
  | cons z a ih => simp [prts, ih]
theorem prts_len (a : List Prt) : (prts a).length = a.length * 4 := by
  induction a with
  | nil => rfl
  | cons z a ih => simp [prts, ih]; omega
theorem prts_at {l : List Prt} : ∀ {k : Nat} {p : Prt}, l[k]? = some p → (prts l)[k * 4]? = some (.int .i64 p.at_) ∧ (prts l)[k * 4 + 1]? = some (.int .u64 (kdN p.fr)) ∧ (prts l)[k * 4 + 2]? = some (.int .i64 p.n) ∧ (prts l)[k * 4 + 3]? = some (.int .i64 p.nx) := by
  induction l with
  | nil => intro k p h; simp at h
  | cons z l ih =>
    intro k p h
    cases k with
    | zero => simp at h; subst h; simp [prts]
    | succ k =>
      have := ih (k := k) (p := p) (by simpa using h)
      rw [show (k + 1) * 4 = k * 4 + 1 + 1 + 1 + 1 by omega]
      simpa [prts] using this
theorem prts_one {l : List Prt} : ∀ u ∈ prts l, u.oneCell' = true := by
  induction l with
  | nil => intro u h; simp [prts] at h
  | cons z l ih =>
    intro u h
    simp [prts] at h
    rcases h with rfl | rfl | rfl | rfl | h
    · rfl
    · rfl
    · rfl
    · rfl
    · exact ih u h
theorem prts_set {l : List Prt} : ∀ {k : Nat} {p : Prt} (a : Int), l[k]? = some p → (prts l).set (k * 4) (.int .i64 a) = prts (l.set k { p with at_ := a }) ∧ (prts l).set (k * 4 + 3) (.int .i64 a) = prts (l.set k { p with nx := a }) := by
  induction l with
  | nil => intro k p a h; simp at h
  | cons z l ih =>
    intro k p a h
    cases k with
    | zero => simp at h; subst h; simp [prts]
    | succ k =>
      have := ih (k := k) (p := p) a (by simpa using h)
      rw [show (k + 1) * 4 = k * 4 + 1 + 1 + 1 + 1 by omega]
      simp only [List.set_cons_succ, prts, List.set]
      refine ⟨?_, ?_⟩
      · rw [this.1]
      · rw [this.2]

/-- A row of parts of one's own. -/
def PR (w : World) (lo : Nat) (v : Value) (l : List Prt) : Prop := w.ownsRow lo 71 4 v l.length (prts l)

section
variable {w w' : World} {lo : Nat} {v : Value} {l : List Prt}
theorem PR.form (h : PR w lo v l) : (v = .slice none 0 0 ∧ l = []) ∨ ∃ g cap, v = .slice (some ⟨g, 0, none⟩) l.length cap ∧ l.length ≤ cap ∧ lo ≤ g ∧ g < w.heap.size ∧ (∀ i, w.frozen? ⟨g, i, none⟩ = false) := by
  rcases h.2 with ⟨e1, e2⟩ | ⟨g, cap, cur, e, h1, h2, h3, _⟩
  · exact .inl ⟨e1, List.eq_nil_of_length_eq_zero e2⟩
  · exact .inr ⟨g, cap, e, h3, h1, (Array.getElem?_eq_some_iff.1 h2).1, fun i => by simp [World.frozen?, h2]⟩
theorem PR.cells {g n cap k : Nat} {p : Prt} (h : PR w lo (.slice (some ⟨g, 0, none⟩) n cap) l) (hk : l[k]? = some p) :
    w.cell? ⟨g, k * 4, none⟩ = some (.int .i64 p.at_) ∧ w.cell? ⟨g, k * 4 + 1, none⟩ = some (.int .u64 (kdN p.fr)) ∧ w.cell? ⟨g, k * 4 + 2, none⟩ = some (.int .i64 p.n) ∧ w.cell? ⟨g, k * 4 + 3, none⟩ = some (.int .i64 p.nx) := by
  have hl := (List.getElem?_eq_some_iff.1 hk).1
  have en : n = l.length := by
    rcases h.form with ⟨e, _⟩ | ⟨_, _, e, _⟩
    · cases e
    · injection e
  subst en
  obtain ⟨p0, p1, p2, p3⟩ := prts_at hk
  have ln := prts_len l
  refine ⟨?_, ?_, ?_, ?_⟩
  · rw [h.cellAt (k * 4) (by omega)]; exact p0
  · rw [h.cellAt (k * 4 + 1) (by omega)]; exact p1
  · rw [h.cellAt (k * 4 + 2) (by omega)]; exact p2
  · rw [h.cellAt (k * 4 + 3) (by omega)]; exact p3
theorem PR.kept (h : PR w lo v l) {F : Nat → Prop} (f : Fr F w w') (hn : ∀ k, v.ownBlock = some k → ¬ F k) : PR w' lo v l :=
  owns_same h fun k hk => f.block k (World.ownsRow.lt h k hk).2 (hn k hk)
theorem PR.still (h : PR w lo v l) (f : Still w w') : PR w' lo v l := h.kept f (fun _ _ x => x)
theorem PR.sets {g n cap k j : Nat} {x : Value} {l' : List Prt} (h : PR w lo (.slice (some ⟨g, 0, none⟩) n cap) l) (_hj : j < l.length * 4) (hl : l'.length = l.length) (he : (prts l).set j x = prts l') (_hk : k = k) : PR (w.setCell ⟨g, j, none⟩ x) lo (.slice (some ⟨g, 0, none⟩) n cap) l' := by
  refine ⟨by rw [prts_len], ?_⟩
  rcases h.2 with ⟨hv, hn⟩ | ⟨g', cap', cur, hv, hb, hg, hc, hm, hs, hcur⟩
  · cases hv
  · injection hv with hv1 hv2 hv3
    injection hv1 with hv1
    injection hv1 with hv1
    subst hv1; subst hv2; subst hv3
    refine .inr ⟨g, cap, cur.setIfInBounds j x, by rw [hl], hb, ?_, by rw [hl]; exact hc, hm, by simpa using hs, ?_⟩
    · simp [World.setCell, Array.getElem?_modify, hg]
    · rw [Array.toList_setIfInBounds, List.take_set, hl, hcur, he]
theorem PR.setAt {g n cap k : Nat} {p : Prt} (h : PR w lo (.slice (some ⟨g, 0, none⟩) n cap) l) (hk : l[k]? = some p) (a : Int) : PR (w.setCell ⟨g, k * 4, none⟩ (.int .i64 a)) lo (.slice (some ⟨g, 0, none⟩) n cap) (l.set k { p with at_ := a }) :=
  h.sets (k := k) (by have := (List.getElem?_eq_some_iff.1 hk).1; omega) (by simp) (prts_set a hk).1 rfl
theorem PR.setNx {g n cap k : Nat} {p : Prt} (h : PR w lo (.slice (some ⟨g, 0, none⟩) n cap) l) (hk : l[k]? = some p) (a : Int) : PR (w.setCell ⟨g, k * 4 + 3, none⟩ (.int .i64 a)) lo (.slice (some ⟨g, 0, none⟩) n cap) (l.set k { p with nx := a }) :=
  h.sets (k := k) (by have := (List.getElem?_eq_some_iff.1 hk).1; omega) (by simp) (prts_set a hk).2 rfl
end

theorem info_part : (Tryz.prog.info? 71).map (fun i => (i.zero, i.size, i.bytes)) = some (some (.agg #[.int .i64 0, .int .u64 0, .int .i64 0, .int .i64 0]), 4, 32) := by kernel_rfl
theorem info_partE : ∃ i, Tryz.prog.info? 71 = some i ∧ i.zero = some (.agg #[.int .i64 0, .int .u64 0, .int .i64 0, .int .i64 0]) ∧ i.size = 4 ∧ i.bytes = 32 := by
  have hi := info_part
  cases h : Tryz.prog.info? 71 with
  | none => rw [h] at hi; simp at hi
  | some i => rw [h] at hi; simp only [Option.map_some, Option.some.injEq, Prod.mk.injEq] at hi; exact ⟨i, rfl, hi⟩

/-- The run of an append of one part to a row of one's own. -/
theorem run_prt (w : World) (lo : Nat) (ty : TypeId) (v : Value) (l : List Prt) (hown : PR w lo v l) (p : Prt) (hl : l.length ≤ 1000) (hlo : lo ≤ w.heap.size) :
    ∃ v' w', (Builtin.append_ #[64, 64] ty #[v, .slice (some ⟨w.heap.size, 0, none⟩) 1 1]).run Tryz.prog (w.alloc (ptO p.at_ p.fr p.n p.nx)) = .ok v' w' ∧ PR w' lo v' (l ++ [p]) ∧ Fr (fun k => v.ownBlock = some k) w w' ∧ (v'.ownBlock = v.ownBlock ∨ v'.ownBlock = some (w.heap.size + 1)) := by
  obtain ⟨i, hi, hz, hsize, hby⟩ := info_partE
  have hA : (w.alloc (ptO p.at_ p.fr p.n p.nx)).heap.size = w.heap.size + 1 := by simp
  have hc : ∀ j u, (prts [p])[j]? = some u → (w.alloc (ptO p.at_ p.fr p.n p.nx)).cell? ((⟨w.heap.size, 0, none⟩ : Addr).add j) = some u := by
    intro j u hu
    have hadd : (⟨w.heap.size, 0, none⟩ : Addr).add j = ⟨w.heap.size, j, none⟩ := by unfold Addr.add; split <;> simp_all
    rw [hadd, cell_of_obj (heap_alloc_new w _) j]
    simpa [prts] using hu
  have own1 : PR (w.alloc (ptO p.at_ p.fr p.n p.nx)) lo v l := hown.still ((Fr.refl _ w).alloc _)
  obtain ⟨v', w', hr, h2, h3, _, h5⟩ := run_append_own_at (P := Tryz.prog) (w.alloc (ptO p.at_ p.fr p.n p.nx)) lo 64 ty 71 i (.agg #[.int .i64 0, .int .u64 0, .int .i64 0, .int .i64 0]) 4 32 Tryz.underlying64 hi hz hsize hby rfl (by decide) v l.length (prts l) own1 ⟨w.heap.size, 0, none⟩ 1 1 (prts [p]) (by rw [prts_len]; rfl) hc prts_one (by unfold maxLen; omega) (by omega) (by rw [hA]; omega)
  refine ⟨v', w', hr, ?_, ((Fr.refl (fun k => v.ownBlock = some k) w).alloc _).grown h3 (fun r e => .inl e), ?_⟩
  · unfold PR
    rw [List.length_append, prts_app]; exact h2
  · rw [hA] at h5; exact h5
/-- An append whose run is known. -/
theorem wpList_append_run {P : Program} {w : World} {ops : Array Oper} {rest : List Oper} {o : Oper} {a : Act} {Q : Exit → Act → World → Prop} (hgd : o.guard = none) (s x : Operand) (t : TypeId)
    (ho : o.op = .call { callee := .builtin .append, args := #[s, x], argTypes := #[t, t] }) (vs vx : Value) (hs : a.eval s = vs) (hx : a.eval x = vx) (v' : Value) (w' : World) (hr : (Builtin.append_ #[t, t] o.type #[vs, vx]).run P w = .ok v' w')
    (h : wpList P ops Q rest (a.put o.dst v') w') : wpList P ops Q (o :: rest) a w := by
  refine wpList_plain hgd fun K hK => ?_
  unfold Oper.wp execOp
  simp only [ho, resolve, invoke, builtin, Sem.run_bind, Sem.run_pure, Result.andThen_ok, List.map_toArray, List.map_cons, List.map_nil, hs, hx, hr]
  exact hK _ _ h

/-- The parts of n bytes, not placed yet. -/
def chn (fr : Bool) (n : Nat) : Nat → List Prt
  | 0 => []
  | f + 1 => ⟨0, fr, n, 0⟩ :: (if bhN fr n = 0 then [] else chn false (bhN fr n) f)

set_option maxRecDepth 20000 in
set_option maxHeartbeats 2000000 in
theorem r_planned (n : Nat) (hn : n ≤ 4096) (w : World) : Calls Tryz.prog 28 #[.int .i64 n] w fun e w' => ∃ g cap, e = .returned (.slice (some ⟨g, 0, none⟩) (chn true n 10).length cap) ∧ PR w' w.heap.size (.slice (some ⟨g, 0, none⟩) (chn true n 10).length cap) (chn true n 10) ∧ Still w w' := by
  obtain ⟨W, hW⟩ : ∃ W, w.alloc (.cells #[.int .i64 0, .int .u64 1919247153, .int .i64 n, .int .i64 0] 71) = W := ⟨_, rfl⟩
  have fW : Still w W := hW ▸ (Fr.refl _ w).alloc _
  have bW : W.heap[w.heap.size]? = some (.cells #[.int .i64 0, .int .u64 1919247153, .int .i64 n, .int .i64 0] 71 (0, 0)) := hW ▸ heap_alloc_new w _
  have pW : PR W w.heap.size (.slice (some ⟨w.heap.size, 0, none⟩) 1 1) [⟨0, true, n, 0⟩] := ⟨rfl, .inr ⟨w.heap.size, 1, _, rfl, Nat.le_refl _, bW, Nat.le_refl _, by unfold maxLen; omega, rfl, rfl⟩⟩
  have c0 : W.cell? ⟨w.heap.size, 0, none⟩ = some (.int .i64 0) := cell_of_obj bW 0
  have c1 : W.cell? ⟨w.heap.size, 1, none⟩ = some (.int .u64 1919247153) := cell_of_obj bW 1
  have c2 : W.cell? ⟨w.heap.size, 2, none⟩ = some (.int .i64 n) := cell_of_obj bW 2
  have c3 : W.cell? ⟨w.heap.size, 3, none⟩ = some (.int .i64 0) := cell_of_obj bW 3
  have BH := p_behind 0 true n 0 (by omega) W
  have HW := hide hW; have HX := hide (And.intro fW pW); have HBH := hide BH
  clear hW fW bW pW BH
  go_enter Tryz.func28, Tryz.ntmps28
  go_wp2_with fail
  rw [unhide HW]
  refine (unhide HBH).mono ?_
  clear HBH HW c0 c1 c2 c3
  rintro e w1 ⟨rfl, f1⟩
  have HX1 := hide (And.intro ((unhide HX).1.trans' f1 (fun _ x => x.elim)) ((unhide HX).2.still f1))
  clear f1 HX
  go_wp2_with fail
  go_loopw [3, 4] (fun v nv wr => ∃ (g cap m f : Nat) (pre : List Prt), v = .slice (some ⟨g, 0, none⟩) pre.length cap ∧ nv = .int .i64 m ∧ m ≤ 504 * f ∧ m ≤ 4096 ∧ pre.length + f = 10 ∧ 1 ≤ pre.length ∧ chn true n 10 = pre ++ (if m = 0 then [] else chn false m f) ∧ PR wr w.heap.size (.slice (some ⟨g, 0, none⟩) pre.length cap) pre ∧ Still w wr) (fun v nv wr => (intOf nv).toNat)
  case atStart =>
    obtain ⟨f1, p1⟩ := unhide HX1
    refine ⟨w.heap.size, 1, bhN true n, 9, [⟨0, true, n, 0⟩], rfl, rfl, ?_, ?_, rfl, by simp, rfl, p1, f1⟩
    · unfold bhN ahd; simp; omega
    · have := bh_le true n; omega
  case round =>
    clear HX1
    obtain ⟨g, cap, m, f, pre, rfl, rfl, hmf, hm4, hpf, hp1, hch, pr, fr⟩ := hrel
    generalize wr = wq at *
    clear wr
    by_cases h0 : m = 0
    · subst h0
      rw [if_pos rfl, List.append_nil] at hch
      rw [← hch] at pr ⊢
      have HX := hide (And.intro pr fr)
      clear pr fr hch
      go_wp2
      go_ret
      exact ⟨g, cap, rfl, unhide HX⟩
    · have h0' : ((0 : Int) < m) = True := by simp; omega
      obtain ⟨f', rfl⟩ : ∃ f', f = f' + 1 := ⟨f - 1, by omega⟩
      obtain ⟨v2, w2, hap, pr2, fr2, loc2⟩ := run_prt wq w.heap.size 64 _ pre pr ⟨0, false, m, 0⟩ (by omega) fr.size
      obtain ⟨g2, cap2, ev2⟩ : ∃ g2 cap2, v2 = .slice (some ⟨g2, 0, none⟩) (pre.length + 1) cap2 := by
        rcases pr2.form with ⟨_, e⟩ | ⟨g2, cap2, e, _⟩
        · simp at e
        · exact ⟨g2, cap2, by rw [e]; simp⟩
      subst ev2
      have hk : (pre ++ [(⟨0, false, m, 0⟩ : Prt)])[pre.length]? = some ⟨0, false, m, 0⟩ := by simp
      obtain ⟨d0, d1, d2, d3⟩ := pr2.cells hk
      have BH := p_behind 0 false m 0 (by omega) w2
      have f02 : Still w w2 := fr.trans' fr2 (fun k hk => .inr (World.ownsRow.lt pr k hk).1)
      have HAP := hide hap; have HBH := hide BH; have HX2 := hide (And.intro f02 (And.intro pr2 (And.intro hch (And.intro hpf hmf))))
      have hpl9 : pre.length ≤ 1000 := by omega
      clear hap BH f02 pr2 fr2 loc2 hk hch pr fr hpf hmf
      generalize hpl : pre.length = pl at *
      have hi1 : (pl : Int) + 1 - 1 = (pl : Int) := by omega
      have HPL := hide hpl
      clear hpl
      go_wp2_with (first | (at_builtin; refine wpList_append_run rfl (.tmp 21) (.tmp 24) 64 rfl _ _ rfl rfl (.slice (some ⟨g2, 0, none⟩) (pl + 1) cap2) w2 (unhide HAP) ?_) | fail)
      refine (unhide HBH).mono ?_
      clear HBH HAP d0 d1 d2 d3
      rintro e w3 ⟨rfl, f3⟩
      have HF3 := hide f3
      clear f3
      go_wp2
      obtain ⟨f02, pr2, hch, hpf, hmf⟩ := unhide HX2
      have hpl := unhide HPL
      refine ⟨⟨g2, cap2, bhN false m, f', pre ++ [⟨0, false, m, 0⟩], by rw [List.length_append, hpl]; rfl, rfl, ?_, ?_, ?_, by simp, ?_, ?_, f02.trans' (unhide HF3) (fun _ x => x.elim)⟩, ?_⟩
      · unfold bhN ahd; simp; omega
      · have := bh_le false m; omega
      · rw [List.length_append, hpl]; simp; omega
      · rw [hch, if_neg h0]
        simp [chn]
      · have := pr2.still (unhide HF3)
        rw [List.length_append, hpl]; exact this
      · have : bhN false m < m := by unfold bhN ahd; simp; omega
        simp [intOf]; omega
end

section
set_option maxHeartbeats 800000 in
theorem onlyE_raw {f : Value} {w : World} {R : How → World → Prop} (K : Calls Tryz.prog 51 #[f] w fun e w' => ∃ h, e = .returned (.tuple #[h.v, .bool h.is]) ∧ R h w') (hk : ∀ h w', R h w' → h = .well ∨ ∃ i, h = .errno i) :
    Calls Tryz.prog 96 #[f] w fun e w' => (e = .returned (.tuple #[.int .i64 0, .bool false]) ∧ R .well w') ∨ ∃ i, e = .returned (.tuple #[.int .i64 i, .bool true]) ∧ R (.errno i) w' := by
  have HK := hide K; clear K
  have a3 := taE_errno
  go_enter Tryz.func96, Tryz.ntmps96
  go_wp2_with fail
  refine (unhide HK).mono ?_
  rintro e w1 ⟨h, rfl, hR⟩
  have hK := hk _ _ hR
  have HR := hide hR; clear hR HK hk
  rcases hK with rfl | ⟨i, rfl⟩
  · simp only [How.v, How.is]
    go_wp2
    go_ret2
    exact .inl ⟨rfl, unhide HR⟩
  · simp only [How.v, How.is]
    go_wp2
    go_ret2
    exact .inr ⟨i, rfl, unhide HR⟩
set_option maxHeartbeats 800000 in
/-- Errno about what ends well or by an error. -/
theorem g_errno {f : Value} {w : World} {R : How → World → Prop} (K : Calls Tryz.prog 51 #[f] w fun e w' => ∃ h, e = .returned (.tuple #[h.v, .bool h.is]) ∧ R h w') (hk : ∀ h w', R h w' → h = .well ∨ ∃ i, h = .errno i) :
    Calls Tryz.prog 58 #[f] w fun e w' => (e = .returned (.int .i64 0) ∧ R .well w') ∨ ∃ i, e = .returned (.int .i64 i) ∧ R (.errno i) w' := by
  have HK := hide (onlyE_raw K hk); clear K hk
  go_enter Tryz.func58, Tryz.ntmps58
  go_wp2_with fail
  refine (unhide HK).mono ?_
  clear HK
  rintro e w1 (⟨rfl, h⟩ | ⟨i, rfl, h⟩)
  · have HR := hide h
    clear h
    go_wp2
    go_ret
    exact .inl ⟨rfl, unhide HR⟩
  · have HR := hide h
    clear h
    go_wp2
    go_ret
    exact .inr ⟨i, rfl, unhide HR⟩

section
variable {nu sz : Nat} {w w' w0 : World} {hb sb b : Nat} {T : Tay} {A : Ab} {P : List (Int × Int)}

theorem well_errnoG {i : Int} (h : How.well = How.errno i) : False := by injection h with h; cases h
/-- A piece that is taken, by its part: where it lies, and how long it is. -/
def Tkn (nu : Nat) (f : Nat → Int) (u : Nat) (fr : Bool) (n : Nat) : Prop := ask nu f u = szN fr n ∧ u < nu

set_option maxHeartbeats 1000000 in
theorem r_mustC (h : Hp nu sz w hb sb b T A P) (s : HpS nu (says P A)) (fr : Bool) (n u : Nat) (tk : Tkn nu (says P A) u fr n) {b2 b3 b4 : Nat} (c2 : w.cell? ⟨b2, 0, none⟩ = some (ptr hb)) (c3 : w.cell? ⟨b3, 0, none⟩ = some (.int .i64 (fi nu + u * 8))) (c4 : w.cell? ⟨b4, 0, none⟩ = some (.int .i64 0)) (z4 : w.frozen? ⟨b4, 0, none⟩ = false) :
    Calls Tryz.prog 66 #[ptr b2, ptr b3, ptr b4] w fun e w' => e = .returned (.tuple #[]) ∧ ∃ q, w' = (w.drewN q).setCell ⟨b4, 0, none⟩ (.int .i64 (szN fr n)) := by
  have hne : ask nu (says P A) u ≠ 0 := by rw [tk.1]; have := sz_b fr n; omega
  have SZ := h_size h.hp h.reads s.wd u tk.2 (begs_of s.inv hne)
  rw [tk.1] at SZ
  have HSZ := hide SZ
  clear SZ h s tk hne
  go_enter Tryz.func66, Tryz.ntmps66
  go_wp2_with fail
  refine (unhide HSZ).mono ?_
  clear HSZ
  rintro e w1 ⟨rfl, q, rfl⟩
  have c4' : (w.drewN q).cell? ⟨b4, 0, none⟩ = some (.int .i64 0) := c4
  have z4' : (w.drewN q).frozen? ⟨b4, 0, none⟩ = false := z4
  clear c4 z4 c2 c3
  go_wp2
  go_end0
  exact ⟨rfl, q, rfl⟩

set_option maxRecDepth 20000 in
set_option maxHeartbeats 2000000 in
theorem r_must (h : Hp nu sz w hb sb b T A P) (s : HpS nu (says P A)) (fr : Bool) (n u : Nat) (nx : Int) (hn : n ≤ 5000) (tk : Tkn nu (says P A) u fr n) :
    Calls Tryz.prog 34 #[ptr hb, ptV (fi nu + u * 8) fr n nx] w fun e w' => e = .returned (.tuple #[]) ∧ Still w w' := by
  obtain ⟨W1, hW1⟩ : ∃ W1, w.alloc (.cells #[ptr hb] 25) = W1 := ⟨_, rfl⟩
  obtain ⟨W2, hW2⟩ : ∃ W2, W1.alloc (ptO (fi nu + u * 8) fr n nx) = W2 := ⟨_, rfl⟩
  obtain ⟨W3, hW3⟩ : ∃ W3, W2.alloc (.cells #[.int .i64 0] 3) = W3 := ⟨_, rfl⟩
  obtain ⟨g, hg⟩ : ∃ g, w.heap.size = g := ⟨_, rfl⟩
  have z1 : W1.heap.size = g + 1 := by rw [← hW1]; simp [hg]
  have z2 : W2.heap.size = g + 2 := by rw [← hW2]; simp; omega
  have z3 : W3.heap.size = g + 3 := by rw [← hW3]; simp; omega
  have f1 : Still w W1 := hW1 ▸ (Fr.refl _ w).alloc _
  have f2 : Still W1 W2 := hW2 ▸ (Fr.refl _ W1).alloc _
  have f3 : Still W2 W3 := hW3 ▸ (Fr.refl _ W2).alloc _
  have f23 : Still W1 W3 := f2.trans' f3 (fun _ x => x.elim)
  have f03 : Still w W3 := f1.trans' f23 (fun _ x => x.elim)
  have b1 : Box W3 g (ptr hb) := by
    have := Box.new w (ptr hb) 25
    rw [hW1, hg] at this; exact this.kept f23 (fun x => x)
  have o2 : W3.heap[g + 1]? = some (.cells #[.int .i64 (fi nu + u * 8), .int .u64 (kdN fr), .int .i64 n, .int .i64 nx] 71 (0, 0)) := by
    have := heap_alloc_new W1 (ptO (fi nu + u * 8) fr n nx)
    rw [hW2, z1] at this; exact f3.obj this (fun x => x)
  have b3 : Box W3 (g + 2) (.int .i64 0) := by
    have := Box.new W2 (.int .i64 0) 3
    rw [hW3, z2] at this; exact this
  have TR : Calls Tryz.prog 51 #[.func (.func 66) #[] #[ptr g, ptr (g + 1), ptr (g + 2)]] W3 fun e w' => ∃ h : How, e = .returned (.tuple #[h.v, .bool h.is]) ∧ (h = .well ∧ Fr (fun k => k = g + 2) W3 w' ∧ Box w' (g + 2) (.int .i64 (szN fr n))) :=
    try_fr (F := fun k => k = g + 2) (fun k hk => by omega) (acts_of (fun _ _ => by kernel_rfl) ((r_mustC (h.still (f03.alloc box)) s fr n u tk (b1.alloc box).c (cell_of_obj (((Fr.refl (fun _ => False) W3).alloc box).obj o2 (fun x => x)) 0) (b3.alloc box).c (b3.alloc box).z).mono (by
      rintro e w' ⟨rfl, q, rfl⟩
      have fr1 : Fr (fun k => k = g + 2) (W3.alloc box) (((W3.alloc box).drewN q).setCell ⟨g + 2, 0, none⟩ (.int .i64 (szN fr n))) := ((Fr.refl (fun k => k = g + 2) (W3.alloc box)).drewN q).setCell (.inl rfl) _
      refine ⟨.well, rfl, fr1, fun w2 f2 => ⟨rfl, ?_, ?_⟩⟩
      · exact (((Fr.refl (fun k => k = g + 2) W3).alloc box).trans fr1).trans' f2 (fun k hk => .inr (by omega))
      · exact (((b3.alloc box).kept ((Fr.refl (fun _ => False) _).drewN q) (fun x => x)).set _).kept f2 (fun e => by have e : g + 2 = W3.heap.size := e; omega))))
  have ER := g_errno (R := fun h w' => h = .well ∧ Fr (fun k => k = g + 2) W3 w' ∧ Box w' (g + 2) (.int .i64 (szN fr n))) TR (fun h w' x => .inl x.1)
  have PS := p_sizeX (fi nu + u * 8) fr n nx hn
  have mfk := mf
  have HER := hide ER; have HW := hide (And.intro hW1 (And.intro hW2 hW3)); have HF := hide f03; have HO2 := hide o2
  unfold ptV ptO at *
  clear h s tk TR ER f1 f2 f3 f23 f03 b1 b3 o2 hW1 hW2 hW3 z1 z2
  go_enter Tryz.func34, Tryz.ntmps34
  go_wp2_with fail
  rw [(unhide HW).1, (unhide HW).2.1, (unhide HW).2.2, show g + 1 + 1 = g + 2 from rfl]
  refine (unhide HER).mono ?_
  clear HER HW
  rintro e w4 (⟨rfl, -, f4, b4⟩ | ⟨i, -, e, _⟩)
  · have o4 := f4.obj (unhide HO2) (by omega)
    have c4 := b4.c
    have d0 : w4.cell? ⟨g + 1, 0, none⟩ = some (.int .i64 (fi nu + u * 8)) := cell_of_obj o4 0
    have d1 : w4.cell? ⟨g + 1, 1, none⟩ = some (.int .u64 (kdN fr)) := cell_of_obj o4 1
    have d2 : w4.cell? ⟨g + 1, 2, none⟩ = some (.int .i64 n) := cell_of_obj o4 2
    have d3 : w4.cell? ⟨g + 1, 3, none⟩ = some (.int .i64 nx) := cell_of_obj o4 3
    have HF4 := hide ((unhide HF).trans' f4 (fun k hk => .inr (by omega)))
    clear f4 b4 o4 HO2 HF
    generalize (fi nu : Int) + u * 8 = at_ at *
    generalize kdN fr = kd at *
    generalize szN fr n = r at *
    go_wp2_with fail
    go_region_held (fun w' => w'.cell? ⟨g + 2, 0, none⟩ = some (.int .i64 r) ∧ w'.cell? ⟨g + 1, 0, none⟩ = some (.int .i64 at_) ∧ w'.cell? ⟨g + 1, 1, none⟩ = some (.int .u64 kd) ∧ w'.cell? ⟨g + 1, 2, none⟩ = some (.int .i64 n) ∧ w'.cell? ⟨g + 1, 3, none⟩ = some (.int .i64 nx)) (go_keep) (first | (go_at_call 32; refine (PS _).mono ?_; rintro e w' ⟨rfl, rfl⟩))
    go_wp2
    go_end0
    exact ⟨rfl, ((((unhide HF4).alloc _).alloc _).drewN 1).drewN 1⟩
  · exact (well_errnoG e.symm).elim

/-- A piece's first word, read again. -/
theorem wr_parts (fr : Bool) (n q : Nat) (hn : n ≤ 4096) (hq : q < 65536) : ((wrN fr n q : Nat) : Int) / 4294967296 = (kdN fr : Nat) ∧ bits .and .u64 (((wrN fr n q : Nat) : Int) / 65536) 65535 = (n : Nat) ∧ bits .and .u64 ((wrN fr n q : Nat) : Int) 65535 = (q : Nat) ∧ wrN fr n q < 18446744073709551616 := by
  have hk : kdN fr < 4294967296 := by unfold kdN; split <;> omega
  unfold wrN
  generalize kdN fr = k at *
  refine ⟨by omega, ?_, ?_, by omega⟩
  · have e : ((k * 4294967296 + n * 65536 + q : Nat) : Int) / 65536 = ((k * 65536 + n : Nat) : Int) := by omega
    rw [e, show (65535 : Int) = ((65535 : Nat) : Int) from rfl, u64_and_nat _ _ (by omega) (by omega), nat_mask16]
    congr 1
    omega
  · rw [show (65535 : Int) = ((65535 : Nat) : Int) from rfl, u64_and_nat _ _ (by omega) (by omega), nat_mask16]
    congr 1
    omega

/-- A part that stands at a place of the store. -/
structure PtAt (sz : Nat) (f : Nat → Int) (p : Nat) (fr : Bool) (n q : Nat) : Prop where
  w : f p = ((wrN fr n q : Nat) : Int)
  n4 : n ≤ 4096
  q6 : q < 65536
  lo : 8 ≤ p
  m8 : p % 8 = 0
  hi : p + szN fr n ≤ sz
  nx : q = 0 ↔ bhN fr n = 0

end
end

section
theorem kept0 (w : World) : Still w w.drew := (Fr.refl (fun _ => False) w).drewN 1
theorem kept2 (w : World) (a b : Obj) : Still w ((w.alloc a).alloc b).drew.drew := ((((Fr.refl (fun _ => False) w).alloc a).alloc b).drewN 1).drewN 1
theorem kept4 (w : World) (a b c d : Obj) : Still w ((((w.alloc a).alloc b).alloc c).alloc d).drew.drew.drew := (((((((Fr.refl (fun _ => False) w).alloc a).alloc b).alloc c).alloc d).drewN 1).drewN 1).drewN 1
section
variable {nu sz : Nat} {w w' w0 : World} {hb sb b : Nat} {T : Tay} {A : Ab} {P : List (Int × Int)}

set_option maxRecDepth 20000 in
set_option maxHeartbeats 4000000 in
theorem r_partAt (h : Hp nu sz w hb sb b T A P) {p : Nat} {fr : Bool} {n q : Nat} (pa : PtAt sz (says P A) p fr n q) :
    Calls Tryz.prog 68 #[ptr sb, .int .i64 p, .int .u64 (kdN fr)] w fun e w' => e = .returned (ptV p fr n (8 * q : Nat)) ∧ Still w w' := by
  obtain ⟨g1, g2, g3, g4, g5, g6⟩ := h.hp.geo.b
  have ss := sz_b fr n
  have hi := pa.hi
  have LD : ∀ w1, Still w w1 → Calls Tryz.prog 36 #[ptr sb, .int .i64 p] w1 fun e w' => e = .returned (u64 ((wrN fr n q : Nat) : Int)) ∧ w' = w1 := fun w1 f1 => by
    have := (h.still f1).load p (by omega)
    rw [pa.w] at this; exact this
  have SZ : ∀ w1, Still w w1 → Calls Tryz.prog 46 #[ptr sb] w1 fun e w' => e = .returned (.int .i64 sz) ∧ w' = w1 := fun w1 f1 => t_size (n := sz) (h.still f1).st.c2
  have c2 := h.st.c2
  have PS := p_sizeX p fr n (8 * q : Nat) (by have := pa.n4; omega)
  have BH := p_behindX p fr n (8 * q : Nat) (by have := pa.n4; omega)
  obtain ⟨e1, e2, e3, e4⟩ := wr_parts fr n q pa.n4 pa.q6
  have n4 := pa.n4; have q6 := pa.q6; have lo := pa.lo; have m8 := pa.m8
  have l1 : ((p : Int) < 8) = False := by simp; omega
  have l2 : ((sz : Int) ≤ p) = False := by simp; omega
  have l3 : ((p : Int) % 8 != 0) = false := by simp; omega
  have l4 : ((sz : Int) - p < szN fr n) = False := by simp; omega
  have l6 : ((4096 : Int) < n) = False := by simp; omega
  have w9 : IntKind.i64.wrap ((sz : Int) - p) = (sz : Int) - p := (wrap_small _ (by omega) (by omega)).1
  have hnx := pa.nx
  have hb4 := bh_le fr n
  have l5 : (((8 * q : Nat) : Int) == 0) = ((bhN fr n : Int) == 0) := by
    by_cases e : q = 0
    · rw [hnx.1 e, e]
    · have : bhN fr n ≠ 0 := fun x => e (hnx.2 x)
      rw [beq_eq_false_iff_ne.2 (by omega), beq_eq_false_iff_ne.2 (by omega)]
  obtain ⟨W, hW⟩ : ∃ W, w.alloc (.cells #[.int .i64 0, .int .u64 0, .int .i64 0, .int .i64 0] 71) = W := ⟨_, rfl⟩
  have fW : Still w W := hW ▸ (Fr.refl _ w).alloc _
  obtain ⟨W2, hW2⟩ : ∃ W2, W.alloc (.cells #[.int .i64 p, .int .u64 (kdN fr), .int .i64 n, .int .i64 (8 * q : Nat)] 71) = W2 := ⟨_, rfl⟩
  obtain ⟨g, hg⟩ : ∃ g, w.heap.size = g := ⟨_, rfl⟩
  have z1 : W.heap.size = g + 1 := by rw [← hW]; simp [hg]
  have f2 : Still W W2 := hW2 ▸ (Fr.refl _ W).alloc _
  have f02 : Still w W2 := fW.trans' f2 (fun _ x => x.elim)
  have oR : W2.heap[g]? = some (.cells #[.int .i64 0, .int .u64 0, .int .i64 0, .int .i64 0] 71 (0, 0)) := by
    have := heap_alloc_new w (.cells #[.int .i64 0, .int .u64 0, .int .i64 0, .int .i64 0] 71)
    rw [hW, hg] at this; exact f2.obj this (fun x => x)
  have oP : W2.heap[g + 1]? = some (.cells #[.int .i64 p, .int .u64 (kdN fr), .int .i64 n, .int .i64 (8 * q : Nat)] 71 (0, 0)) := by
    have := heap_alloc_new W (.cells #[.int .i64 p, .int .u64 (kdN fr), .int .i64 n, .int .i64 (8 * q : Nat)] 71)
    rw [hW2, z1] at this; exact this
  have d0 : W2.cell? ⟨g + 1, 0, none⟩ = some (.int .i64 p) := cell_of_obj oP 0
  have d1 : W2.cell? ⟨g + 1, 1, none⟩ = some (.int .u64 (kdN fr)) := cell_of_obj oP 1
  have d2 : W2.cell? ⟨g + 1, 2, none⟩ = some (.int .i64 n) := cell_of_obj oP 2
  have d3 : W2.cell? ⟨g + 1, 3, none⟩ = some (.int .i64 (8 * q : Nat)) := cell_of_obj oP 3
  have cS : W2.cell? ⟨sb, 2, none⟩ = some (.int .i64 sz) := f02.cell' c2 (fun x => x)
  have SZ2 : ∀ w1 : World, w1.cell? ⟨sb, 2, none⟩ = some (.int .i64 sz) → Calls Tryz.prog 46 #[ptr sb] w1 fun e w' => e = .returned (.int .i64 sz) ∧ w' = w1 := fun w1 c => t_size (n := sz) c
  have HLD := hide (LD W fW); have HSZ := hide (SZ W fW); have HSZ2 := @hide _ SZ2; have HW := hide (And.intro hW hW2)
  have HX := hide (And.intro f02 (And.intro oR oP)); have HZ1 := hide z1
  unfold ptV ptO at *
  clear LD SZ SZ2 hW hW2 fW f2 f02 oR oP z1 hnx pa h c2 g1 g2 g3 g4 g6
  have e5 : ((q : Int) * 8) = ((8 * q : Nat) : Int) := by omega
  generalize ((8 * q : Nat) : Int) = nx at *
  generalize szN fr n = rs at *
  generalize bhN fr n = rb' at *
  generalize kdN fr = kd at *
  generalize wrN fr n q = wv at *
  have l7 : ((kd : Int) != kd) = false := by simp
  have l8 : (((rb' : Int) == 0) != ((rb' : Int) == 0)) = false := by simp
  go_enter Tryz.func68, Tryz.ntmps68
  go_wp2_with (first | (rw [(unhide HW).1]; go_at_call 46; refine (unhide HSZ).mono ?_; rintro e w' ⟨rfl, hh⟩; replace hh := hh.symm; subst hh) | fail)
  refine (unhide HLD).mono ?_
  clear HLD HSZ
  rintro e w' ⟨rfl, hh⟩
  replace hh := hh.symm
  subst hh
  go_wp2_with fail
  rw [(unhide HW).2, unhide HZ1]
  clear e1 e2 e3 HW HZ1
  go_region_held (fun w' => w'.cell? ⟨sb, 2, none⟩ = some (.int .i64 sz) ∧ w'.cell? ⟨g + 1, 0, none⟩ = some (.int .i64 p) ∧ w'.cell? ⟨g + 1, 1, none⟩ = some (.int .u64 kd) ∧ w'.cell? ⟨g + 1, 2, none⟩ = some (.int .i64 n) ∧ w'.cell? ⟨g + 1, 3, none⟩ = some (.int .i64 nx)) (first | (with_reducible exact ⟨(kept0 W2).cell' cS (fun x => x), (kept0 W2).cell' d0 (fun x => x), (kept0 W2).cell' d1 (fun x => x), (kept0 W2).cell' d2 (fun x => x), (kept0 W2).cell' d3 (fun x => x)⟩) | (with_reducible exact ⟨(kept2 W2 (.cells #[.int .i64 p, .int .u64 kd, .int .i64 n, .int .i64 nx] 71) (.cells #[.int .i64 p, .int .u64 kd, .int .i64 n, .int .i64 nx] 71)).cell' cS (fun x => x), (kept2 W2 (.cells #[.int .i64 p, .int .u64 kd, .int .i64 n, .int .i64 nx] 71) (.cells #[.int .i64 p, .int .u64 kd, .int .i64 n, .int .i64 nx] 71)).cell' d0 (fun x => x), (kept2 W2 (.cells #[.int .i64 p, .int .u64 kd, .int .i64 n, .int .i64 nx] 71) (.cells #[.int .i64 p, .int .u64 kd, .int .i64 n, .int .i64 nx] 71)).cell' d1 (fun x => x), (kept2 W2 (.cells #[.int .i64 p, .int .u64 kd, .int .i64 n, .int .i64 nx] 71) (.cells #[.int .i64 p, .int .u64 kd, .int .i64 n, .int .i64 nx] 71)).cell' d2 (fun x => x), (kept2 W2 (.cells #[.int .i64 p, .int .u64 kd, .int .i64 n, .int .i64 nx] 71) (.cells #[.int .i64 p, .int .u64 kd, .int .i64 n, .int .i64 nx] 71)).cell' d3 (fun x => x)⟩) | (with_reducible exact ⟨(kept4 W2 (.cells #[.int .i64 p, .int .u64 kd, .int .i64 n, .int .i64 nx] 71) (.cells #[.int .i64 p, .int .u64 kd, .int .i64 n, .int .i64 nx] 71) (.cells #[.int .i64 p, .int .u64 kd, .int .i64 n, .int .i64 nx] 71) (.cells #[.int .i64 p, .int .u64 kd, .int .i64 n, .int .i64 nx] 71)).cell' cS (fun x => x), (kept4 W2 (.cells #[.int .i64 p, .int .u64 kd, .int .i64 n, .int .i64 nx] 71) (.cells #[.int .i64 p, .int .u64 kd, .int .i64 n, .int .i64 nx] 71) (.cells #[.int .i64 p, .int .u64 kd, .int .i64 n, .int .i64 nx] 71) (.cells #[.int .i64 p, .int .u64 kd, .int .i64 n, .int .i64 nx] 71)).cell' d0 (fun x => x), (kept4 W2 (.cells #[.int .i64 p, .int .u64 kd, .int .i64 n, .int .i64 nx] 71) (.cells #[.int .i64 p, .int .u64 kd, .int .i64 n, .int .i64 nx] 71) (.cells #[.int .i64 p, .int .u64 kd, .int .i64 n, .int .i64 nx] 71) (.cells #[.int .i64 p, .int .u64 kd, .int .i64 n, .int .i64 nx] 71)).cell' d1 (fun x => x), (kept4 W2 (.cells #[.int .i64 p, .int .u64 kd, .int .i64 n, .int .i64 nx] 71) (.cells #[.int .i64 p, .int .u64 kd, .int .i64 n, .int .i64 nx] 71) (.cells #[.int .i64 p, .int .u64 kd, .int .i64 n, .int .i64 nx] 71) (.cells #[.int .i64 p, .int .u64 kd, .int .i64 n, .int .i64 nx] 71)).cell' d2 (fun x => x), (kept4 W2 (.cells #[.int .i64 p, .int .u64 kd, .int .i64 n, .int .i64 nx] 71) (.cells #[.int .i64 p, .int .u64 kd, .int .i64 n, .int .i64 nx] 71) (.cells #[.int .i64 p, .int .u64 kd, .int .i64 n, .int .i64 nx] 71) (.cells #[.int .i64 p, .int .u64 kd, .int .i64 n, .int .i64 nx] 71)).cell' d3 (fun x => x)⟩) | go_keep) (first | (go_at_call 32; refine (PS _).mono ?_; rintro e w' ⟨rfl, rfl⟩) | (go_at_call 62; refine (BH _).mono ?_; rintro e w' ⟨rfl, rfl⟩) | (go_at_call 46; refine (unhide HSZ2 _ (by simp [*])).mono ?_; rintro e w' ⟨rfl, rfl⟩))
  have f4 := kept4 W2 (.cells #[.int .i64 p, .int .u64 kd, .int .i64 n, .int .i64 nx] 71) (.cells #[.int .i64 p, .int .u64 kd, .int .i64 n, .int .i64 nx] 71) (.cells #[.int .i64 p, .int .u64 kd, .int .i64 n, .int .i64 nx] 71) (.cells #[.int .i64 p, .int .u64 kd, .int .i64 n, .int .i64 nx] 71)
  obtain ⟨W4, hW4⟩ : ∃ W4, ((((W2.alloc (.cells #[.int .i64 p, .int .u64 kd, .int .i64 n, .int .i64 nx] 71)).alloc (.cells #[.int .i64 p, .int .u64 kd, .int .i64 n, .int .i64 nx] 71)).alloc (.cells #[.int .i64 p, .int .u64 kd, .int .i64 n, .int .i64 nx] 71)).alloc (.cells #[.int .i64 p, .int .u64 kd, .int .i64 n, .int .i64 nx] 71)).drew.drew.drew = W4 := ⟨_, rfl⟩
  rw [hW4] at f4 ⊢
  clear hW4
  obtain ⟨f02, oR, oP⟩ := unhide HX
  have oR4 := f4.obj oR (fun x => x)
  have c0 : W4.cell? ⟨g + 1, 0, none⟩ = some (.int .i64 p) := f4.cell' d0 (fun x => x)
  have c1 : W4.cell? ⟨g + 1, 1, none⟩ = some (.int .u64 kd) := f4.cell' d1 (fun x => x)
  have c2 : W4.cell? ⟨g + 1, 2, none⟩ = some (.int .i64 n) := f4.cell' d2 (fun x => x)
  have c3 : W4.cell? ⟨g + 1, 3, none⟩ = some (.int .i64 nx) := f4.cell' d3 (fun x => x)
  have r0 : W4.cell? ⟨g, 0, none⟩ = some (.int .i64 0) := cell_of_obj oR4 0
  have r1 : W4.cell? ⟨g, 1, none⟩ = some (.int .u64 0) := cell_of_obj oR4 1
  have r2 : W4.cell? ⟨g, 2, none⟩ = some (.int .i64 0) := cell_of_obj oR4 2
  have r3 : W4.cell? ⟨g, 3, none⟩ = some (.int .i64 0) := cell_of_obj oR4 3
  have rz : ∀ o, W4.frozen? ⟨g, o, none⟩ = false := fun o => by simp [World.frozen?, oR4]
  have HF := hide (And.intro (f02.trans' f4 (fun _ x => x.elim)) (And.intro hg oR4))
  clear f02 f4 oR oP oR4 HX d0 d1 d2 d3 PS BH HSZ2 cS hg
  go_wp2
  obtain ⟨f04, hg, oR4⟩ := unhide HF
  have oF := heap_setCell_same _ g 3 _ _ (.int .i64 nx) (heap_setCell_same _ g 2 _ _ (.int .i64 n) (heap_setCell_same _ g 1 _ _ (.int .u64 kd) (heap_setCell_same W4 g 0 _ _ (.int .i64 p) oR4)))
  refine bodyPost_ret (results_cell_row Tryz.results68 _ _ g 71 #[.int .i64 p, .int .u64 kd, .int .i64 n, .int .i64 nx] (0, 0) _ (by rfl) oF Tryz.underlying71 rfl (by kernel_rfl)) rfl ?_
  refine ⟨rfl, ?_⟩
  have f5 : Fr (fun k => k = g) W4 ((((W4.setCell ⟨g, 0, none⟩ (.int .i64 p)).setCell ⟨g, 1, none⟩ (.int .u64 kd)).setCell ⟨g, 2, none⟩ (.int .i64 n)).setCell ⟨g, 3, none⟩ (.int .i64 nx)) := ((((Fr.refl (fun k => k = g) W4).setCell (.inl rfl) _).setCell (.inl rfl) _).setCell (.inl rfl) _).setCell (.inl rfl) _
  exact f04.trans' f5 (fun k hk => .inr (by omega))

end
end
end Go.Proofs.YtdgobaknbjlahaaGreatDoor
