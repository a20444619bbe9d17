/- RedoOrders: the walk. -/
import Derived.Test.YtockkjkaopihjaaWrs
import Derived.Below
namespace Go.Proofs.Ytockkjkaopihjaa
open Go.RowKit

/-- What the loop of RedoOrders holds: so many numbers have come; those of vs wait to be committed; the last that was committed is la. -/
structure OrdJ (w1 : World) (b lg : Nat) (L : Lay) (sp i : Nat) (vs : List Int) (v : Value) (la : Int) (wr : World) : Prop where
  dev : ∃ L1 A1 f base, On w1 b L wr L1 A1 ∧ Calm 32 True A1 (3 + 49 * i) f ∧ Clean 0 64 base f ∧ base 100 = la ∧ base 101 = 77 ∧ ∀ r, v.ownBlock = some r → ¬ foot b L1 r
  row : wr.ownsRow w1.heap.size 32 2 v vs.length (wcells (vs.map fun x => (100, x)))
  few : vs.length < sp

set_option maxHeartbeats 2000000 in
theorem orders_ok (a : Option Addr) (len cap : Nat) (split : Int) (w : World) (zs : Nat → Int) (hz : Nums w a len zs) (hlen : len ≤ maxLen) :
    Calls Try.prog 3 #[.slice a len cap, .int .i64 split] w fun e w' => e = .returned (.bool true) ∧ Below w.heap.size w w' := by
  have hm := mask_i64 split 7 (by omega)
  have hml := msk_le split 7
  generalize msk split 7 = sp at *
  have m7 : bits .and .i64 split 7 = (sp : Int) := hm
  have HO := hide (law_open w); have HZ := hide hz
  clear hz hm
  unfold maxLen at hlen
  go_enter Try.func3, Try.ntmps3
  go_wp2_with fail
  refine (unhide HO).mono ?_
  clear HO
  rintro e w1 ⟨b, lg, L, rfl, o1⟩
  have S := o_store (On.start o1.d) (fresh_calm 32 True) (by omega) 101 101 rfl (by omega) 77
  have HS := hide S; have HO1 := hide o1
  clear S o1
  go_wp2_with fail
  refine (unhide HS).mono ?_
  clear HS
  rintro e w2 (⟨rfl, D⟩ | ⟨rfl, D⟩)
  rotate_left
  · obtain ⟨_, _, _, ⟨h, _⟩, _⟩ := D
    exact absurd trivial h
  obtain ⟨L2, A2, o2, c2⟩ := D.on
  have S := o_flush o2 c2 (by omega) 101 101 rfl (by omega)
  have HS := hide S
  clear S o2 c2 D
  go_wp2_with fail
  refine (unhide HS).mono ?_
  clear HS
  rintro e w3 (⟨rfl, D⟩ | ⟨rfl, D⟩)
  rotate_left
  · obtain ⟨_, _, _, ⟨h, _⟩, _⟩ := D
    exact absurd trivial h
  obtain ⟨L3, A3, o3, c3⟩ := D.on
  have S := o_fence o3 c3 (by omega) (by
    intro j hj
    by_cases e : j = 101
    · subst e; simp
    · exact absurd (upd_other _ _ e) hj)
  have HS := hide S
  clear S o3 c3 D
  go_wp2_with fail
  refine (unhide HS).mono ?_
  clear HS
  rintro e w4 (⟨rfl, D⟩ | ⟨rfl, D⟩)
  rotate_left
  · obtain ⟨_, _, _, ⟨h, _⟩, _⟩ := D
    exact absurd trivial h
  obtain ⟨L4, A4, o4, c4⟩ := D.on
  have HO4 := hide o4; have HC4 := hide c4
  clear o4 c4 D
  go_wp2_with fail
  go_loopw [7, 8, 9] (fun v la i wr => ∃ (k : Nat) (vs : List Int) (z : Int), k ≤ len ∧ k ≤ 100 ∧ i = .int .i64 k ∧ la = .int .u64 z ∧ OrdJ w1 b lg L (sp + 1) k vs v z wr) (fun v la i wr => 100 - (intOf i).toNat)
  case atStart =>
    refine ⟨0, [], 0, by omega, by omega, rfl, rfl, ⟨L4, A4, upd (fun _ => 0) 101 77, upd (fun _ => 0) 101 77, unhide HO4, by simpa using unhide HC4, ⟨rfl, fun _ _ => rfl⟩, rfl, rfl, by simp [Value.ownBlock]⟩, World.ownsRow_nil _ _ _ _, by simp⟩
  case round =>
    obtain ⟨k, vs, z, hk1, hk2, rfl, rfl, hj⟩ := hrel
    clear HO4 HC4
    by_cases hlt : k < len ∧ k < 100
    · obtain ⟨hl1, hl2⟩ := hlt
      obtain ⟨xb, xo, rfl, hc⟩ := unhide HZ k hl1
      obtain ⟨L5, A5, f, base, o5, c5, cl5, b1, b2, nf5⟩ := hj.dev
      have o1 := unhide HO1
      have hxw : xb < w.heap.size := World.block_lt_of_cell? _ _ hc
      have cz : _root_.Go.World.cell? _ _ = _ := o5.fr.cell' (o1.fr.cell' hc (fun h => h)) (fun hf => by have := o1.new _ hf; simp at this; omega)
      have hi := info_wr
      obtain ⟨i0, hi0⟩ : ∃ i, Try.prog.info? 32 = some i := by
        cases h : Try.prog.info? 32 with
        | none => rw [h] at hi; simp at hi
        | some i => exact ⟨i, rfl⟩
      rw [hi0] at hi
      simp only [Option.map_some, Option.some.injEq, Prod.mk.injEq] at hi
      have few := hj.few
      have sz1 : w1.heap.size ≤ wr.heap.size := o5.fr.size
      have HI := hide (And.intro hi0 hi); have HR := hide hj.row; have HJ := hide hj; have H5 := hide (And.intro o5 (And.intro c5 (And.intro cl5 (And.intro b1 (And.intro b2 nf5)))))
      clear hi0 hi hc hj o5 c5 cl5 b1 b2 nf5 o1
      generalize hvl : vs.length = m at *
      have HVL := hide hvl
      clear hvl
      go_wp2_with (at_builtin; refine wpList_append_own_at _ rfl _ _ 30 rfl w1.heap.size 32 i0 (.agg #[.int .i64 0, .int .u64 0]) 2 16 Try.underlying30 (unhide HI).1 (unhide HI).2.1 (unhide HI).2.2.1 (unhide HI).2.2.2 rfl (by decide) _ m (wcells (vs.map fun x => (100, x))) rfl ((unhide HR).alloc _) _ 1 1 [.int .i64 100, u64 (IntKind.u64.wrap (zs k))] rfl rfl ?c1 ?c2 ?c3 ?c4 ?c5 ?_)
      case c1 => exact pair_news _ _ _ _
      case c2 => intro u hu; simp at hu; rcases hu with rfl | rfl <;> rfl
      case c3 => unfold maxLen; omega
      case c4 => omega
      case c5 => simp; omega
      intro v' w6 hown hgrow _ hloc
      obtain ⟨g', cap', rfl⟩ := owns_form hown (by omega)
      obtain ⟨o5, c5, cl5, b1, b2, nf5⟩ := unhide H5
      have fr6 : Fr (fun j => some j = u7.ownBlock) wr w6 := ((Fr.refl _ wr).alloc _).grown hgrow (fun j e => .inl e.symm)
      have o6 : On w1 b L w6 L5 A5 := o5.turn fr6 (fun r hr => nf5 r hr.symm) (fun r hr => ((unhide HR).lt r hr.symm).1)
      have nf6 : ¬ foot b L5 g' := by
        rcases hloc with e | e
        · exact nf5 g' (by rw [← e]; rfl)
        · exact o5.new (by simp [Value.ownBlock] at e; omega)
      have rw6 : w6.ownsRow w1.heap.size 32 2 (.slice (some ⟨g', 0, none⟩) (m + 1) cap') (vs ++ [IntKind.u64.wrap (zs k)]).length (wcells ((vs ++ [IntKind.u64.wrap (zs k)]).map fun x => (100, x))) := by
        rw [List.length_append, unhide HVL, List.map_append, wcells_app]; exact hown
      have HO6 := hide o6; have HNF := hide nf6; have HR6 := hide rw6; have HC5 := hide (And.intro c5 (And.intro cl5 (And.intro b1 b2)))
      clear hown hgrow hloc o5 c5 cl5 b1 b2 nf5 fr6 o6 nf6 rw6 HR H5 cz HI HJ
      by_cases hq : m = sp
      · subst hq
        have hqq : ((m : Int) + 1 == (m : Int) + 1) = true := by simp
        generalize hxv : IntKind.u64.wrap (zs k) = xv at *
        clear hxv
        obtain ⟨xs, hxs⟩ : ∃ xs : List (Int × Int), (vs ++ [xv]).map (fun x => ((100 : Int), x)) = xs := ⟨_, rfl⟩
        have hxl : xs.length = m + 1 := by rw [← hxs, List.length_map, List.length_append, unhide HVL]; rfl
        have o1 := unhide HO1
        have o6 := unhide HO6
        obtain ⟨c5, cl5, b1, b2⟩ := unhide HC5
        have lgw : lg < w1.heap.size := World.block_lt_of_cell? _ _ o1.log.c0
        have row := unhide HR6
        have hvl : (vs ++ [xv]).length = m + 1 := by rw [List.length_append, unhide HVL]; rfl
        rw [hxs, hvl, ← hxl] at row
        have wrs : WrAt w6 g' 0 xs := owns_wr row
        have tk : Takes 32 0 64 xs := ⟨by intro e; rw [e] at hxl; simp at hxl, by intro x hx; rw [← hxs] at hx; obtain ⟨y, _, rfl⟩ := List.mem_map.1 hx; exact ⟨by omega, by omega, by omega⟩, by omega, by omega⟩
        have C := commit_ok o6.d (o6.log o1.log o1.nlg) (o6.other lgw o1.nlg) c5 cl5 g' 0 cap' xs wrs (unhide HNF) tk (by omega) (by omega) (by omega)
        have lastc := (wrs m (100, xv) (by rw [← hxs, List.map_append, List.getElem?_append_right (by rw [List.length_map, unhide HVL]; exact Nat.le_refl _)]; simp [unhide HVL])).2
        have hom : homed xs.reverse base 100 = xv ∧ homed xs.reverse base 101 = 77 := by
          constructor
          · rw [← hxs, List.map_append, List.reverse_append]; rfl
          · rw [homed_other (fun y hy => by rw [List.mem_reverse, ← hxs] at hy; obtain ⟨z, _, rfl⟩ := List.mem_map.1 hy; simp)]; exact b2
        rw [hxl] at C
        have HC := hide C; have HLC := hide lastc; have HHM := hide hom
        clear C lastc hom wrs tk row o6 o1 c5 cl5 b1 b2 lgw HC5 HR6 hvl
        go_wp2_with fail
        refine (unhide HC).mono ?_
        clear HC
        rintro e w7 (⟨rfl, D⟩ | ⟨rfl, D⟩)
        rotate_left
        · obtain ⟨_, _, _, ⟨h, _⟩, _⟩ := D
          exact absurd trivial h
        obtain ⟨L7, A7, o7, f7, c7, cl7⟩ := D.on
        have lc : w7.cell? ⟨g', 0 + m * 2 + 1, none⟩ = some (u64 xv) := o7.fr.cell' (unhide HLC) (unhide HNF)
        rw [Nat.zero_add] at lc
        have e7 : f7 100 = xv := (cl7.out 100 (.inr (by omega))).trans (unhide HHM).1
        have LD := d_load o7.d c7 100 (by omega)
        rw [e7] at LD
        have HLD := hide LD; have HO7 := hide o7; have HC7 := hide (And.intro c7 cl7)
        clear LD o7 c7 cl7 e7 D
        go_wp2_with fail
        refine (unhide HLD).mono ?_
        clear HLD
        rintro e w8 ⟨rfl, rfl⟩
        go_wp2
        obtain ⟨c7, cl7⟩ := unhide HC7
        exact ⟨⟨k + 1, [], xv, by omega, by omega, by go_num, rfl, ⟨L7, A7, f7, _, (unhide HO6).trans (unhide HO7), c7.more (by omega), cl7, (unhide HHM).1, (unhide HHM).2, by simp [Value.ownBlock]⟩, World.ownsRow_nil _ _ _ _, by simp⟩, by simp [intOf]; omega⟩
      · have hqq : ((m : Int) + 1 == (sp : Int) + 1) = false := by simp; omega
        go_wp2
        obtain ⟨c5, cl5, b1, b2⟩ := unhide HC5
        refine ⟨⟨k + 1, vs ++ [IntKind.u64.wrap (zs k)], z, by omega, by omega, by go_num, rfl, ⟨L5, A5, _, base, unhide HO6, c5.more (by omega), cl5, b1, b2, ?_⟩, unhide HR6, by rw [List.length_append, unhide HVL]; simp; omega⟩, by simp [intOf]; omega⟩
        intro r hr
        have : r = g' := by simpa [Value.ownBlock] using hr.symm
        rw [this]; exact unhide HNF
    · obtain ⟨L5, A5, f, base, o5, c5, cl5, b1, b2, nf5⟩ := hj.dev
      have P := p_power_nil o5.d c5.n c5.st (by omega) false
      have HP := hide P; have HO5 := hide o5; have HC5 := hide (And.intro c5 (And.intro cl5 (And.intro b1 b2)))
      clear P o5 c5 cl5 b1 b2 nf5 hj
      rcases (show len ≤ k ∨ (k < len ∧ 100 ≤ k) by omega) with h1 | ⟨h1, h2⟩
      all_goals
        go_wp2_with fail
        refine (unhide HP).mono ?_
        clear HP
        rintro e w6 ⟨rfl, D⟩
        obtain ⟨L6, A6, o6, h6, p6, c6⟩ := D.on
        obtain ⟨c5, cl5, b1, b2⟩ := unhide HC5
        have cl6 := cl5.of_poss c5 p6
        have LD := d_load o6.d (c6 True) 100 (by omega)
        have LE := d_load o6.d (c6 True) 101 (by omega)
        rw [(cl6.out 100 (.inr (by omega))).trans b1] at LD
        rw [(cl6.out 101 (.inr (by omega))).trans b2] at LE
        have HLD := hide LD; have HLE := hide LE; have HO6 := hide o6; have HAW := hide (awake_ok w6)
        clear LD LE o6 c5 cl5 b1 b2 cl6 p6 c6 D HC5
        go_wp2_with fail
        refine (unhide HLD).mono ?_
        clear HLD
        rintro e w7 ⟨rfl, rfl⟩
        go_wp2_with fail
        refine (unhide HLE).mono ?_
        clear HLE
        rintro e w7 ⟨rfl, rfl⟩
        go_wp2_with fail
        refine (unhide HAW).mono ?_
        clear HAW
        rintro e w8 ⟨rfl, f8⟩
        have HF8 := hide f8
        clear f8
        go_wp2
        go_ret
        refine ⟨rfl, ?_⟩
        have o1 := unhide HO1
        have f9 : Fr (fun _ => False) w w8 := (o1.fr.trans' ((unhide HO5).trans (unhide HO6)).fr (fun j hj => .inr (o1.new j hj))).trans (unhide HF8)
        exact f9.below (Nat.le_refl _) (fun _ h => h.elim)
end Go.Proofs.Ytockkjkaopihjaa
