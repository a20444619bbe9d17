/- HeapRoots: its closure. -/
import Derived.Test.YtgehfmonfofbiaaGreatDoorLr
namespace Go.Proofs.YtgehfmonfofbiaaGreatDoor
open Go.RowKit

theorem HpS.root {f : Nat → Int} (s : HpS f) (i : Nat) (h1 : 2 ≤ i) (h2 : i < 18) (v : Nat) (hv : v < 18446744073709551616) : HpS (upd f i v) :=
  ⟨words_upd s.wd i v hv, by rw [upd_other _ _ (by omega)]; exact s.mrk, by rw [fre_upd _ (.inl h2), ask_upd _ (.inl (by omega))]; exact s.inv, by rw [ask_upd _ (.inl (by omega)), upd_other _ _ (by omega)]; exact s.fr⟩

/-- A root was set, and, if asked for, a piece of 20 words taken. -/
structure Rooted (f : Nat → Int) (k v : Nat) (fill : Bool) (g : Nat → Int) : Prop where
  st : HpS g
  root : ∀ j, j < 16 → g (2 + j) = if j = k then (v : Int) else f (2 + j)
  ak : (fill = false ∧ ask g = ask f) ∨ (fill = true ∧ ∃ c u, u = c * 2 ^ lv 20 ∧ c < 478 / 2 ^ lv 20 ∧ ask f u = 0 ∧ ask g = setK (ask f) u 20)

section
variable {w w' w0 : World} {hb sb b bh bk bi bf bs : Nat} {T : Tay} {A : Ab} {P : List (Int × Int)}

set_option maxRecDepth 20000 in
set_option maxHeartbeats 4000000 in
theorem roC (h : Hp w hb sb b T A P) (s : HpS (says P A)) (k i : Nat) (fill : Bool) (hk : k < 16) (hi : i < 100) (ch : w.cell? ⟨bh, 0, none⟩ = some (ptr hb)) (ck : w.cell? ⟨bk, 0, none⟩ = some (.int .i64 k)) (ci : w.cell? ⟨bi, 0, none⟩ = some (.int .i64 i)) (cf : w.cell? ⟨bf, 0, none⟩ = some (.bool fill)) (cs : w.cell? ⟨bs, 0, none⟩ = some (ptr sb))
    (na : ∀ r, r = bh ∨ r = bf ∨ r = bs → ¬ tfoot sb b T r) :
    Calls Tryz.prog 21 #[ptr bh, ptr bk, ptr bi, ptr bf, ptr bs] w fun e w' => (e = .returned (.tuple #[]) ∧ ∃ T' P', Onx w sb b T w' T' 3984 A P' false ∧ Rooted (says P A) k (i + 1) fill (says P' A)) ∨ (e = .panicked (errnoP 60) ∧ ∃ T' P', Onx w sb b T w' T' 3984 A P' false ∧ FullAt 20 (says P A)) := by
  have SR := h_setRoot h k hk ((i : Int) + 1)
  have HSR := hide SR; have HH := hide h; have HS := hide s
  have hi1 : IntKind.u64.wrap ((i : Int) + 1) = (i : Int) + 1 := by rw [IntKind.wrap_u64]; omega
  clear SR h s
  go_enter Tryz.func21, Tryz.ntmps21
  go_wp2_with fail
  refine (unhide HSR).mono ?_
  clear HSR
  rintro e w1 ⟨rfl, T1, P1, o1, eg1⟩
  have h1 := (unhide HH).call o1
  have s1 : HpS (says P1 A) := by
    rw [eg1, show ((i : Int) + 1) = ((i + 1 : Nat) : Int) by omega]
    exact (unhide HS).root (2 + k) (by omega) (by omega) (i + 1) (by omega)
  have ak1 : ask (says P1 A) = ask (says P A) := by rw [eg1]; exact ask_upd _ (.inl (by omega))
  have fr1 : fre (says P1 A) = fre (says P A) := by rw [eg1]; exact fre_upd _ (.inl (by omega))
  have rt1 : ∀ j, j < 16 → says P1 A (2 + j) = if j = k then ((i + 1 : Nat) : Int) else says P A (2 + j) := fun j hj => by
    rw [eg1]
    by_cases e : j = k
    · subst e; rw [upd_same, if_pos rfl]; simp
    · rw [upd_other _ _ (by omega), if_neg e]
  have ch1 := o1.fr.cell' ch (na bh (by simp))
  have cf1 := o1.fr.cell' cf (na bf (by simp))
  have cs1 := o1.fr.cell' cs (na bs (by simp))
  have TK : Calls Tryz.prog 12 #[ptr hb, .int .i64 20] w1 _ := h_takeP h1 s1 20 (by omega) (by omega)
  have HTK := hide TK; have HX1 := hide (And.intro o1 (And.intro s1 (And.intro ak1 (And.intro fr1 rt1)))); have HH1 := hide h1
  have lbs : bs < w.heap.size := World.block_lt_of_cell? _ _ cs
  have nbs := na bs (by simp)
  have HNB := hide nbs
  clear TK o1 s1 ak1 fr1 rt1 h1 eg1 ch ck ci cf cs na hi1 nbs
  cases fill
  · go_wp2
    go_end0
    obtain ⟨o1, s1, ak1, fr1, rt1⟩ := unhide HX1
    exact .inl ⟨rfl, T1, P1, o1, s1, rt1, .inl ⟨rfl, ak1⟩⟩
  · go_wp2_with fail
    refine (unhide HTK).mono ?_
    clear HTK
    rintro e w2 (⟨u, g, rfl, ⟨T2, P2, o2, eg2⟩, tk⟩ | ⟨rfl, D, hf⟩)
    · subst eg2
      have h2 := (unhide HH1).call o2
      obtain ⟨c, hu, hcc⟩ := tk.blk
      have hb4 := block_lt hcc
      rw [← hu] at hb4
      have hu5 : u + 4 ≤ 478 := hb4
      have cs2 : w2.cell? ⟨bs, 0, none⟩ = some (ptr sb) := o2.fr.cell' cs1 (by
        obtain ⟨o1, _⟩ := unhide HX1
        exact o1.other lbs (unhide HNB))
      have HX2 := hide (And.intro o2 (And.intro tk (And.intro hu hcc))); have HH2 := hide h2; have HCS2 := hide cs2
      clear o2 tk h2 hu hcc hb4 ch1 cf1 cs1 cs2
      go_wp2_with fail
      go_loopw [6] (fun i wr => ∃ (m : Nat) (T' : Tay) (P' : List (Int × Int)), m ≤ 20 ∧ i = .int .i64 m ∧ Onx w2 sb b T2 wr T' 3984 A P' false ∧ ∀ j, j < 160 → says P' A j = says P2 A j) (fun i wr => 20 - (intOf i).toNat)
      case atStart => exact ⟨0, T2, P2, by omega, rfl, Onx.start (unhide HH2).st, fun _ _ => rfl⟩
      case round =>
        obtain ⟨m, T', P', hm, rfl, o, own⟩ := hrel
        have h3 := (unhide HH2).call o
        by_cases hlt : m < 20
        · have PU := h3.put (160 + 8 * u + m) (by omega) 9223372036854775808
          have e2 : ((160 + 8 * u + m : Nat) : Int) = 160 + (u : Int) * 8 + m := by omega
          rw [e2] at PU
          have cs3 : wr.cell? ⟨bs, 0, none⟩ = some (ptr sb) := o.fr.cell' (unhide HCS2) (by
            obtain ⟨o1, _⟩ := unhide HX1
            obtain ⟨o2, _⟩ := unhide HX2
            exact (o1.trans o2).other lbs (unhide HNB))
          have HPU := hide PU; have HO := hide (And.intro o own)
          clear PU o own h3
          go_wp2_with fail
          refine (unhide HPU).mono ?_
          clear HPU
          rintro e w5 ⟨rfl, T5, P5, o5, eg5⟩
          have HO5 := hide (And.intro o5 eg5)
          clear o5 eg5
          go_wp2
          obtain ⟨o, own⟩ := unhide HO
          obtain ⟨o5, eg5⟩ := unhide HO5
          exact ⟨⟨m + 1, T5, P5, by omega, by go_num, o.trans o5, fun j hj => by rw [eg5, upd_other _ _ (by omega)]; exact own j hj⟩, by simp [intOf]; omega⟩
        · have : m = 20 := by omega
          subst this
          have HO := hide (And.intro o own)
          clear o own h3
          go_wp2
          go_end0
          obtain ⟨o, own⟩ := unhide HO
          obtain ⟨o1, s1, ak1, fr1, rt1⟩ := unhide HX1
          obtain ⟨o2, tk, hu, hcc⟩ := unhide HX2
          refine .inl ⟨rfl, T', P', (o1.trans o2).trans o, tk.st.own own, fun j hj => ?_, .inr ⟨rfl, _, u, hu, hcc, by rw [← ak1]; exact tk.was, by rw [ask_own own, tk.ak, ak1]⟩⟩
          rw [own (2 + j) (by omega), tk.root (2 + j) (by omega) (by omega)]
          exact rt1 j hj
    · obtain ⟨o1, s1, ak1, fr1, rt1⟩ := unhide HX1
      refine ⟨rfl, .inr ⟨rfl, T1, P1, o1.quiet D, fun j h1 h2 c => ?_⟩⟩
      rw [← fr1]; exact hf j h1 h2 c
end
end Go.Proofs.YtgehfmonfofbiaaGreatDoor
