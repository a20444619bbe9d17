/- A store's Open. -/
import Derived.Test.YtdgobaknbjlahaaGreatDoorComm
import Derived.Deep.CutRange
namespace Go.Proofs.YtdgobaknbjlahaaGreatDoor
open Go.RowKit

/-- What the power may leave: as before xs, xs whole behind its mark, or as behind xs. -/
def Stand (N : Nat) (base : Nat → Int) (xs : List (Int × Int)) (h : Nat → Int) : Prop := Clean 0 12304 base h ∨ Half N 0 12304 base xs h ∨ Clean 0 12304 (homed xs.reverse base) h
/-- What an opened store may be: as before xs, or as behind it. -/
def Either (base : Nat → Int) (xs : List (Int × Int)) (h : Nat → Int) : Prop := Clean 0 12304 base h ∨ Clean 0 12304 (homed xs.reverse base) h

section
variable {w w' : World} {b : Nat} {L : Lay} {N : Nat} {free : Prop} {A : Ab} {s : Int} {h base : Nat → Int} {xs : List (Int × Int)}

theorem stand_calm (c : Calm N free A s h) (st : Stand N base xs h) : LogTorn N 0 12304 base xs s A := ⟨c.n, c.st, fun k hp => by rw [calm_poss c hp]; exact st⟩

theorem open_stand (d : DevL w b L A) (c : Calm N free A s h) (st : Stand N base xs h) (hxs : xs.length ≤ 6144) (hN : 12304 ≤ N * 8) (hs : s + 12292 < 4294967296) :
    Calls Tryz.prog 82 #[ptr b, .int .i64 0, .int .i64 12304] w fun e w' =>
      (e = .returned (.tuple #[ptr w.heap.size, .int .i64 0]) ∧ LogAt w' w.heap.size b 0 12304 ∧ ∃ L' A' h', On w b L w' L' A' ∧ A'.n = A.n ∧ ¬ foot b L' w.heap.size ∧ Calm N free A' (s + 12292) h' ∧ Either base xs h') ∨
      (e = .panicked lost ∧ DM w b L w' fun A' => ¬ free ∧ LogTorn N 0 12304 base xs (s + 12292) A') := by
  have n8 := d.n8
  rw [c.n] at n8
  have fresh : h 0 = 0 → Either base xs h → Calls Tryz.prog 82 #[ptr b, .int .i64 0, .int .i64 12304] w fun e w' =>
      (e = .returned (.tuple #[ptr w.heap.size, .int .i64 0]) ∧ LogAt w' w.heap.size b 0 12304 ∧ ∃ L' A' h', On w b L w' L' A' ∧ A'.n = A.n ∧ ¬ foot b L' w.heap.size ∧ Calm N free A' (s + 12292) h' ∧ Either base xs h') ∨
      (e = .panicked lost ∧ DM w b L w' fun A' => ¬ free ∧ LogTorn N 0 12304 base xs (s + 12292) A') := fun h0 e2 => by
    refine (open_fresh d c.dead 0 12304 (by omega) (by omega) (by rw [c.n]; omega) (by rw [c.now, h0])).mono ?_
    rintro e w' ⟨rfl, rfl⟩
    exact .inl ⟨rfl, log_new _ _ _ _, L, A, h, (On.start d).alloc _, rfl, fun hf => by have := d.lt _ hf; omega, c.more (by omega), e2⟩
  rcases st with e | e | e
  · exact fresh e.mark (.inl e)
  · refine (open_sealed d c n8 0 12304 (by omega) (by omega) (by omega) xs e.whole (by omega)).mono ?_
    rintro e' w' (⟨rfl, l', L', A', o, nf, c'⟩ | ⟨rfl, D⟩)
    · exact .inl ⟨rfl, l', L', A', _, o, c'.n.trans c.n.symm, nf, c'.more (by omega), .inr (e.done (by omega))⟩
    · refine .inr ⟨rfl, D.mono fun A' ⟨nf, t⟩ => ⟨nf, ?_⟩⟩
      have tt := e.torn (by omega) t
      obtain ⟨f', g, _, tn⟩ := t
      exact ⟨tn.n, by have := tn.st; omega, fun k hp => (tt k hp).elim (fun x => .inr (.inl x)) (fun x => .inr (.inr x))⟩
  · exact fresh e.mark (.inr e)

set_option maxHeartbeats 400000 in
theorem need_ok (w : World) : Calls Tryz.prog 83 #[.int .i64 6144] w fun e w' => e = .returned (.int .i64 12304) ∧ w' = w := by
  go_enter Tryz.func83, Tryz.ntmps83
  go_wp2
  go_ret
  exact ⟨rfl, rfl⟩

set_option maxHeartbeats 400000 in
theorem room_no (n : Int) (h : n < 12400) (w : World) : Calls Tryz.prog 79 #[.int .i64 n] w fun e w' => e = .returned (.int .i64 0) ∧ w' = w := by
  go_enter Tryz.func79, Tryz.ntmps79
  go_wp2
  go_ret
  exact ⟨rfl, rfl⟩

set_option maxHeartbeats 400000 in
theorem room_ok (n : Int) (h : 12400 ≤ n) (h2 : n < 4294967296) (w : World) : Calls Tryz.prog 79 #[.int .i64 n] w fun e w' => e = .returned (.int .i64 ((n - 12400) / 8 * 8)) ∧ w' = w := by
  go_enter Tryz.func79, Tryz.ntmps79
  go_wp2
  go_ret
  exact ⟨rfl, rfl⟩

set_option maxHeartbeats 2000000 in
theorem open_clo {bd bs sb : Nat} {R1 : World → Prop} {lgN : Nat → World → Prop} (cd : w.cell? ⟨bd, 0, none⟩ = some (ptr b)) (cs : w.cell? ⟨bs, 0, none⟩ = some (ptr sb))
    (K : Calls Tryz.prog 82 #[ptr b, .int .i64 0, .int .i64 12304] w.drew fun e w' => (∃ lg, e = .returned (.tuple #[ptr lg, .int .i64 0]) ∧ w'.cell? ⟨bd, 0, none⟩ = some (ptr b) ∧ w'.cell? ⟨bs, 0, none⟩ = some (ptr sb) ∧ w'.cell? ⟨sb, 1, none⟩ = some (.pointer none) ∧ w'.frozen? ⟨sb, 1, none⟩ = false ∧ lgN lg w') ∨ (e = .panicked lost ∧ R1 w')) :
    Calls Tryz.prog 81 #[ptr bd, ptr bs] w fun e w' => (e = .returned (.tuple #[]) ∧ ∃ w1 lg, lgN lg w1 ∧ w' = w1.setCell ⟨sb, 1, none⟩ (ptr lg)) ∨ (e = .panicked lost ∧ R1 w') := by
  have HK := hide K
  clear K
  go_enter Tryz.func81, Tryz.ntmps81
  go_wp2_with fail
  go_region_with (first | (go_at_call 83; refine (need_ok _).mono ?_; rintro e w' ⟨rfl, rfl⟩) | (go_at_call 82; refine (unhide HK).mono ?_; rintro e w2 (⟨lg, rfl, d2, s2, x2, z2, g2⟩ | ⟨rfl, r1⟩); rotate_left; (exact ⟨rfl, .inr ⟨rfl, r1⟩⟩); have HG := hide g2; clear g2))
  all_goals
    clear HK
    go_end0
    exact .inl ⟨rfl, w2, lg, unhide HG, rfl⟩
end

section
variable {w w' : World} {b sb : Nat} {L : Lay} {N n : Nat} {free : Prop} {A : Ab} {s : Int} {h base : Nat → Int} {xs : List (Int × Int)}

set_option maxHeartbeats 400000 in
theorem forget_raw (x y : Value) (c3 : w.cell? ⟨sb, 3, none⟩ = some x) (c4 : w.cell? ⟨sb, 4, none⟩ = some y) (z : ∀ o, w.frozen? ⟨sb, o, none⟩ = false) :
    Calls Tryz.prog 56 #[ptr sb] w fun e w' => e = .returned (.tuple #[]) ∧ w' = ((w.setCell ⟨sb, 3, none⟩ (.slice none 0 0)).setCell ⟨sb, 4, none⟩ (.map (some w.heap.size))).alloc (.map #[] 0) := by
  have lt : sb < w.heap.size := World.block_lt_of_cell? _ _ c3
  have hmm := @run_makeMap Tryz.prog
  have q4 : ((w.setCell ⟨sb, 3, none⟩ (.slice none 0 0)).alloc (.map #[] 0)).cell? ⟨sb, 4, none⟩ = some y := by
    rw [World.cell?_alloc_lt _ _ _ (by simpa using lt), World.cell?_setCell_other _ _ _ _ (by simp)]; exact c4
  have q5 : ((w.setCell ⟨sb, 3, none⟩ (.slice none 0 0)).alloc (.map #[] 0)).frozen? ⟨sb, 4, none⟩ = false := by
    rw [((Fr.refl (fun _ => False) (w.setCell ⟨sb, 3, none⟩ (.slice none 0 0))).alloc (.map #[] 0)).frozen (by simpa using lt) (fun x => x), World.frozen?_setCell]; exact z 4
  go_enter Tryz.func56, Tryz.ntmps56
  go_wp2
  go_end0
  exact ⟨rfl, rfl⟩

/-- A store just made, without its log. -/
structure Raw (w0 w : World) (bd bs sb b n : Nat) : Prop where
  fr : Still w0 w
  cd : w.cell? ⟨bd, 0, none⟩ = some (ptr b)
  cs : w.cell? ⟨bs, 0, none⟩ = some (ptr sb)
  obj : w.heap[sb]? = some (.cells #[ptr b, .pointer none, .int .i64 n, .slice none 0 0, .map none, .bool false] 59)
  nd : w0.heap.size ≤ bd
  ns : w0.heap.size ≤ bs
  nn : w0.heap.size ≤ sb
  d1 : bd ≠ sb
  d2 : bs ≠ sb


theorem cells_at (w : World) (k : Nat) (cs : Array Value) (t : TypeId) (h : w.heap[k]? = some (.cells cs t)) (o : Nat) : w.cell? ⟨k, o, none⟩ = cs[o]? ∧ w.frozen? ⟨k, o, none⟩ = false := ⟨cell_of_obj h o, frozen_of_obj h o⟩

abbrev storObj (b n : Nat) (lv mv : Value) : Obj := .cells #[ptr b, lv, .int .i64 n, .slice none 0 0, mv, .bool false] 59

theorem raw_a {W : World} (f : Still w W) (bc : W.cell? ⟨w.heap.size, 0, none⟩ = some (ptr b)) (n : Nat) :
    Raw w ((W.alloc (.cells #[ptr (W.heap.size + 1)] 24)).alloc (storObj b n (.pointer none) (.map none))).drew w.heap.size W.heap.size (W.heap.size + 1) b n := by
  have lt : w.heap.size < W.heap.size := World.block_lt_of_cell? _ _ bc
  have f1 : Still W (W.alloc (.cells #[ptr (W.heap.size + 1)] 24)) := (Fr.refl _ W).alloc _
  have f2 := f1.alloc (storObj b n (.pointer none) (.map none))
  have z1 : (W.alloc (.cells #[ptr (W.heap.size + 1)] 24)).heap.size = W.heap.size + 1 := by simp
  refine ⟨(f.trans f2).drew, f2.drew.cell' bc (fun x => x), ?_, ?_, by omega, by omega, by omega, by omega, by omega⟩
  · exact ((Box.new W (ptr (W.heap.size + 1)) 24).alloc _).c
  · have := heap_alloc_new (W.alloc (.cells #[ptr (W.heap.size + 1)] 24)) (storObj b n (.pointer none) (.map none))
    rw [z1] at this
    exact this
theorem raw_b {W : World} (f : Still w W) (bc : W.cell? ⟨w.heap.size, 0, none⟩ = some (ptr b)) (n : Nat) :
    Raw w ((W.alloc (storObj b n (.pointer none) (.map none))).alloc (.cells #[ptr W.heap.size] 24)).drew w.heap.size (W.heap.size + 1) W.heap.size b n := by
  have lt : w.heap.size < W.heap.size := World.block_lt_of_cell? _ _ bc
  have f1 : Still W (W.alloc (storObj b n (.pointer none) (.map none))) := (Fr.refl _ W).alloc _
  have f2 := f1.alloc (.cells #[ptr W.heap.size] 24)
  have z1 : (W.alloc (storObj b n (.pointer none) (.map none))).heap.size = W.heap.size + 1 := by simp
  refine ⟨(f.trans f2).drew, f2.drew.cell' bc (fun x => x), ?_, ?_, by omega, by omega, by omega, by omega, by omega⟩
  · have := (Box.new (W.alloc (storObj b n (.pointer none) (.map none))) (ptr W.heap.size) 24).c
    rw [z1] at this
    exact this
  · exact ((Fr.refl (fun _ => False) _).alloc _).obj (heap_alloc_new W (storObj b n (.pointer none) (.map none))) (fun x => x)

/-- The same with its map. -/
structure Made (w0 w : World) (bd bs sb mb b n : Nat) : Prop where
  fr : Still w0 w
  cd : w.cell? ⟨bd, 0, none⟩ = some (ptr b)
  cs : w.cell? ⟨bs, 0, none⟩ = some (ptr sb)
  obj : w.heap[sb]? = some (storObj b n (.pointer none) (.map (some mb)))
  mob : w.heap[mb]? = some (.map #[] 0)
  nd : w0.heap.size ≤ bd
  ns : w0.heap.size ≤ bs
  nn : w0.heap.size ≤ sb
  nm : w0.heap.size ≤ mb
  d1 : bd ≠ sb
  d2 : bs ≠ sb
  d3 : mb ≠ sb

theorem heap_lt {w : World} {k : Nat} {o : Obj} (hv : w.heap[k]? = some o) : k < w.heap.size := by
  rcases Nat.lt_or_ge k w.heap.size with hk | hk
  · exact hk
  · rw [Array.getElem?_eq_none hk] at hv; cases hv

theorem Raw.made {bd bs sb b n : Nat} {w1 : World} (r : Raw w w1 bd bs sb b n) : Made w (((w1.setCell ⟨sb, 3, none⟩ (.slice none 0 0)).setCell ⟨sb, 4, none⟩ (.map (some w1.heap.size))).alloc (.map #[] 0)) bd bs sb w1.heap.size b n := by
  have lt := heap_lt r.obj
  have f1 : Fr (fun k => k = sb) w1 (((w1.setCell ⟨sb, 3, none⟩ (.slice none 0 0)).setCell ⟨sb, 4, none⟩ (.map (some w1.heap.size))).alloc (.map #[] 0)) := (((Fr.refl (fun k => k = sb) w1).setCell (.inl rfl) _).setCell (.inl rfl) _).alloc _
  refine ⟨r.fr.trans' f1 (fun k hk => .inr (by have := r.nn; omega)), f1.cell' r.cd r.d1, f1.cell' r.cs r.d2, ?_, ?_, r.nd, r.ns, r.nn, ?_, r.d1, r.d2, by omega⟩
  · rw [Below.heap_alloc _ _ _ (by simpa using lt)]
    rw [heap_setCell_same _ sb 4 _ 59 _ (heap_setCell_same _ sb 3 _ 59 _ r.obj)]
    rfl
  · have := heap_alloc_new ((w1.setCell ⟨sb, 3, none⟩ (.slice none 0 0)).setCell ⟨sb, 4, none⟩ (.map (some w1.heap.size))) (.map #[] 0)
    simpa using this
  · exact r.fr.size

/-- An opened store. -/
structure Ope (w : World) (b : Nat) (L : Lay) (n N : Nat) (free : Prop) (s : Int) (base : Nat → Int) (xs : List (Int × Int)) (sb : Nat) (w' : World) : Prop where
  ex : ∃ T A' h', StL w' sb b T n A' [] false ∧ (∀ k, tfoot sb b T k → foot b L k ∨ w.heap.size ≤ k) ∧ Calm N free A' (s + 12292) h' ∧ Either base xs h'
  fr : Fr (foot b L) w w'

theorem Ope.still {w2 : World} (o : Ope w b L n N free s base xs sb w') (f : Still w' w2) : Ope w b L n N free s base xs sb w2 := by
  obtain ⟨T, A', h', h1, h2, h3, h4⟩ := o.ex
  exact ⟨⟨T, A', h', h1.still f, h2, h3, h4⟩, o.fr.trans' f (fun _ x => x.elim)⟩

set_option maxHeartbeats 1000000 in
theorem open_made {bd bs mb : Nat} {w2 : World} (m : Made w w2 bd bs sb mb b n) (d : DevL w b L A) (c : Calm N free A s h) (st : Stand N base xs h) (hxs : xs.length ≤ 6144) (hn : N * 8 = 12400 + n) (hs : s + 12292 < 4294967296) (W0 : World) (f0 : Still w2 W0) :
    Calls Tryz.prog 51 #[.func (.func 81) #[] #[ptr bd, ptr bs]] W0 fun e w' => ∃ h : How, e = .returned (.tuple #[h.v, .bool h.is]) ∧
      ((h = .well ∧ Ope w b L n N free s base xs sb w' ∧ w'.cell? ⟨bs, 0, none⟩ = some (ptr sb)) ∨ (h = .lost ∧ DM w b L w' fun A' => ¬ free ∧ LogTorn N 0 12304 base xs (s + 12292) A')) := by
  have lsb := heap_lt m.obj
  have lmb := heap_lt m.mob
  have ffoot : ∀ k, foot b L k → k < w.heap.size := fun k hk => d.lt k hk
  have f1 : Still w2 (W0.alloc box) := f0.alloc box
  have fw : Still w (W0.alloc box) := m.fr.trans f1
  have z1 : (W0.alloc box).heap.size = W0.heap.size + 1 := by simp
  have sz := fw.size
  have szm := m.fr.size
  have sz0 := f0.size
  obtain ⟨W1, hW1⟩ : ∃ W1, W0.alloc box = W1 := ⟨_, rfl⟩
  have m1 : Made w W1 bd bs sb mb b n := hW1 ▸ ⟨fw, f1.cell' m.cd (fun x => x), f1.cell' m.cs (fun x => x), f1.obj m.obj (fun x => x), f1.obj m.mob (fun x => x), m.nd, m.ns, m.nn, m.nm, m.d1, m.d2, m.d3⟩
  rw [hW1] at fw z1 sz
  refine try_fr (F := fun k => foot b L k ∨ k = sb) (fun k hk => by rcases hk with hk | hk; (have := ffoot k hk; omega); omega) (acts_of (fun _ _ => by kernel_rfl) ?_)
  rw [hW1]
  have d1 : DevL W1.drew b L A := d.keptF fw.drew
  have OS := open_stand d1 c st hxs (by omega) hs
  have lbd : bd < W1.heap.size := World.block_lt_of_cell? _ _ m1.cd
  have lbs : bs < W1.heap.size := World.block_lt_of_cell? _ _ m1.cs
  have lsb1 := heap_lt m1.obj
  have nfk : ∀ k, w.heap.size ≤ k → ¬ foot b L k := fun k hk hf => by have := ffoot k hf; omega
  have OC := open_clo (bd := bd) (bs := bs) (sb := sb) (b := b) (w := W1) (R1 := fun w' => DM W1.drew b L w' fun A' => ¬ free ∧ LogTorn N 0 12304 base xs (s + 12292) A')
    (lgN := fun lg w' => lg = W1.heap.size ∧ LogAt w' lg b 0 12304 ∧ ∃ L' A' h', On W1.drew b L w' L' A' ∧ A'.n = A.n ∧ ¬ foot b L' lg ∧ Calm N free A' (s + 12292) h' ∧ Either base xs h') m1.cd m1.cs (OS.mono (by
      rintro e w' (⟨rfl, l', L', A', h', o, q1, q2, q3, q4⟩ | ⟨rfl, D⟩)
      · have ob := o.fr.obj (show W1.drew.heap[sb]? = _ from m1.obj) (nfk _ m1.nn)
        exact .inl ⟨_, rfl, o.fr.cell' (show W1.drew.cell? _ = _ from m1.cd) (nfk _ m1.nd), o.fr.cell' (show W1.drew.cell? _ = _ from m1.cs) (nfk _ m1.ns), cell_of_obj ob 1, frozen_of_obj ob 1, rfl, l', L', A', h', o, q1, q2, q3, q4⟩
      · exact .inr ⟨rfl, D⟩))
  refine OC.mono ?_
  rintro e w' (⟨rfl, w1, lg, ⟨hlg, l', L', A', h', o, q1, q2, q3, q4⟩, rfl⟩ | ⟨rfl, D⟩)
  · have fa : Fr (fun k => foot b L k ∨ k = sb) W1 (w1.setCell ⟨sb, 1, none⟩ (ptr lg)) := ((show Fr (foot b L) W1 w1 from ⟨o.fr.os, o.fr.tape, o.fr.output, o.fr.size, o.fr.block⟩).mono (G := fun k => foot b L k ∨ k = sb) (fun k hk => .inl (.inl hk))).setCell (.inl (.inr rfl)) _
    refine ⟨.well, rfl, fa, fun w3 f3 => .inl ⟨rfl, ?_, ?_⟩⟩
    · have ob1 : w1.heap[sb]? = some (storObj b n (.pointer none) (.map (some mb))) := o.fr.obj (show W1.drew.heap[sb]? = _ from m1.obj) (nfk _ m1.nn)
      have ob2 : (w1.setCell ⟨sb, 1, none⟩ (ptr lg)).heap[sb]? = some (storObj b n (ptr lg) (.map (some mb))) := by
        rw [heap_setCell_same _ sb 1 _ 59 _ ob1]; rfl
      have n0 : sb ≠ W0.heap.size := by omega
      have ob3 : w3.heap[sb]? = some (storObj b n (ptr lg) (.map (some mb))) := f3.obj ob2 n0
      have f13 : Fr (fun k => k = sb ∨ k = W0.heap.size) w1 w3 := ((Fr.refl (fun k => k = sb ∨ k = W0.heap.size) w1).setCell (.inl (.inl rfl)) _).trans' f3 (fun k hk => .inl (.inr hk))
      have nL : ∀ k, foot b L' k → ¬ (k = sb ∨ k = W0.heap.size) := fun k hk hh => by
        rcases o.sub k hk with e | e
        · have := ffoot k e; have := m1.nn; omega
        · have e' : W1.heap.size ≤ k := e
          omega
      have mb1 : w1.heap[mb]? = some (.map #[] 0) := o.fr.obj (show W1.drew.heap[mb]? = _ from m1.mob) (nfk _ m1.nm)
      have mb3 : w3.heap[mb]? = some (.map #[] 0) := f13.obj mb1 (fun hh => by have := m.d3; omega)
      have nlg : ∀ k, foot b L' k → foot b L k ∨ w.heap.size ≤ k := fun k hk => (o.sub k hk).imp id (fun x => by have x' : W1.heap.size ≤ k := x; omega)
      have lmb1 := heap_lt m1.mob
      refine ⟨⟨⟨L', lg, mb, .slice none 0 0⟩, A', h', ?_, ?_, q3, q4⟩, ?_⟩
      · have cs : ∀ o, w3.cell? ⟨sb, o, none⟩ = #[ptr b, ptr lg, .int .i64 n, .slice none 0 0, .map (some mb), .bool false][o]? := fun o => cell_of_obj ob3 o
        refine { dev := o.d.kept f13 nL, log := l'.kept f13 (fun hh => by omega), words := by rw [q1, c.n]; exact hn, c0 := cs 0, c1 := cs 1, c2 := cs 2, c3 := cs 3, c4 := cs 4, c5 := cs 5, zs := fun o => frozen_of_obj ob3 o, own := World.ownsRow_nil _ _ _ _, map := ⟨.map [], ?_, Maps.isMap_empty, fun p x hp => by simp at hp, fun j hj => rfl⟩, few := by simp, keys := by simp, nsb := fun hk => nL _ hk (.inl rfl), nlg := q2, nmb := fun hk => ?_, nsv := fun k hk => by simp [Value.ownBlock] at hk, lgsb := by show lg ≠ sb; omega, mbsb := m.d3, mblg := by show mb ≠ lg; omega }
        · have := World.ownsMap_made (H := Unit) ({ w3 with heap := #[] } : World) Tryz.prog 3 (plainElem Tryz.prog 3)
          obtain ⟨es, clock, e1, e2⟩ := this
          simp [World.alloc] at e1
          obtain ⟨e1a, e1b⟩ := e1
          exact ⟨es, clock, by rw [mb3, e1a, e1b], e2⟩
        · rcases o.sub _ hk with e | e
          · exact nfk _ m.nm e
          · have e' : W1.heap.size ≤ mb := e
            omega
      · rintro k (hk | hk | hk | hk | hk)
        · exact nlg k hk
        · right; rw [hk]; exact m.nn
        · right; have : k = lg := hk; omega
        · right; have : k = mb := hk; have := m.nm; omega
        · simp [Value.ownBlock] at hk
      · have g1 : Fr (foot b L) w w1 := (fw.mono (G := foot b L) (fun _ x => x.elim)).trans ⟨o.fr.os, o.fr.tape, o.fr.output, o.fr.size, o.fr.block⟩
        exact g1.trans' f13 (fun k hk => .inr (by have := m.nn; omega))
    · have c1 : w1.cell? ⟨bs, 0, none⟩ = some (ptr sb) := o.fr.cell' (show W1.drew.cell? _ = _ from m1.cs) (nfk _ m1.ns)
      have c2 : (w1.setCell ⟨sb, 1, none⟩ (ptr lg)).cell? ⟨bs, 0, none⟩ = some (ptr sb) := (World.cell?_setCell_other _ _ _ _ (fun e => m.d2 (by injection e with e; exact e.symm))).trans c1
      exact f3.cell' c2 (by
        have : bs < w2.heap.size := World.block_lt_of_cell? _ _ m.cs
        show ¬ bs = W0.heap.size; omega)
  · obtain ⟨L', A', dv, p, fr, sub⟩ := D
    refine ⟨.lost, How.ended_one _ _, (show Fr (foot b L) W1 w' from ⟨fr.os, fr.tape, fr.output, fr.size, fr.block⟩).mono (fun k hk => .inl (.inl hk)), fun w3 f3 => .inr ⟨rfl, ?_⟩⟩
    have nL : ∀ k, foot b L' k → ¬ k = W0.heap.size := fun k hk hh => by
      rcases sub k hk with e | e
      · have := ffoot k e; omega
      · have e' : W1.heap.size ≤ k := e
        omega
    refine ⟨L', A', dv.kept f3 nL, p, ((fw.mono (G := foot b L) (fun _ x => x.elim)).trans (show Fr (foot b L) W1 w' from ⟨fr.os, fr.tape, fr.output, fr.size, fr.block⟩)).trans' f3 (fun k hk => .inr (by omega)), fun k hk => (sub k hk).imp id (fun x => by have x' : W1.heap.size ≤ k := x; omega)⟩
end
end Go.Proofs.YtdgobaknbjlahaaGreatDoor
