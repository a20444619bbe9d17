/- Reply: members are told. -/
import Derived.Test.YticflknfkaoejaaDoorRo
import Derived.Deep.RegionHeld
namespace Go.Proofs.YticflknfkaoejaaDoor
open Go.RowKit

/-- One operation of a region that is written out is taken first. -/
theorem take_l {P : Program} {Q : Exit → Act → World → Prop} {md : Region.Mode} {S : World → Prop} {os : List Oper} (i : Nat) {oi : Oper} {v : Value} {fuel : Nat} {listed : Array Bool} {a : Act} {w : World} (hi : os[i]? = some oi)
    (hs : Region.noSelect os.toArray = true) (hf : Region.free md os.toArray listed i = true) (hr : (Region.ready md os.toArray listed).contains i = true)
    (hQ : ∀ c a w, Q (.panic c) (a.put oi.dst v) w → Q (.panic c) a w) (hy : YieldsIf P os.toArray S oi v a) (hS : S w)
    (h : wpAnyH P md os.toArray Q S fuel (listed.setIfInBounds i true) (a.put oi.dst v) w) : wpAnyH P md os.toArray Q S (fuel + 1) listed a w :=
  wpAnyH_take (i := i) (oi := oi) (by simpa using hi) hs hf hr hQ hy hS h

/-- A member: its name, its score's bits, its score's text. -/
structure Mb where
  name : List UInt8
  bits : Nat
  text : List UInt8
/-- Members that are read. -/
def Mbs (w : World) (p : Option Addr) (ms : List Mb) : Prop := ∀ i m, ms[i]? = some m → ∃ g o, p = some ⟨g, o, none⟩ ∧ w.cell? ⟨g, o + i * 2, none⟩ = some (sv m.name) ∧ w.cell? ⟨g, o + i * 2 + 1, none⟩ = some (.float .f64 m.bits) ∧ g < w.heap.size
def scoredL (ms : List Mb) : List UInt8 := lineL [[83,67,79,82,69,68], Lib.decDigits ms.length] ++ (ms.map fun m => lineL [m.name, m.text]).flatten

set_option maxRecDepth 100000 in
set_option maxHeartbeats 4000000 in
theorem rscored_ok {W w : World} (hK : Kn W w) (p : Option Addr) (c : Nat) (ms : List Mb) (hp : Mbs w p ms) (hn : ms.length ≤ 100) (hs : ∀ m ∈ ms, m.name.length ≤ 10000 ∧ m.text.length ≤ 1000 ∧ TextIs m.bits m.text) :
    Calls Tryd.prog 17 #[.slice p ms.length c] w fun e w' => e = .returned (.string (bs (scoredL ms))) ∧ Still w w' := by
  have hit : Lib.itoa (ms.length : Int) = Lib.decDigits ms.length := by unfold Lib.itoa; rw [if_neg (by omega)]; rfl
  have hI := fun (w1 : World) (k : Kn W w1) => itoa_ok (ms.length : Int) (by omega) (by omega) k
  rw [hit] at hI
  have hd := dec_small ms.length (by omega)
  unfold scoredL
  obtain ⟨d, hdd⟩ : ∃ d, Lib.decDigits ms.length = d := ⟨_, rfl⟩
  rw [hdd] at hI hd ⊢
  have hb := Bld.new w
  have hsw : Still w (w.alloc (.cells #[.pointer none, .slice none 0 0] 67)) := (Fr.refl _ w).alloc _
  have HI := hide (hI _ (hK.still hsw))
  have hh : (lineL [[83,67,79,82,69,68], d]).length ≤ 28 := by rw [line2_len]; simp; omega
  obtain ⟨n, hn'⟩ : ∃ n, ms.length = n := ⟨_, rfl⟩
  rw [hn'] at hn HI ⊢
  have H := hide (And.intro hK (And.intro hp (And.intro hn' (And.intro hs (And.intro hd hh)))))
  have HB := hide (And.intro hb hsw)
  clear hK hp hs hit hI hd hdd hb hsw hn' hh
  go_enter Tryd.func17, Tryd.ntmps17
  go_wp2_with fail
  refine (unhide HI).mono ?_
  rintro e w1 ⟨rfl, s1⟩
  have hb1 := (unhide HB).1.still (s1.alloc (.cells #[.string (bs [83,67,79,82,69,68]), .string (bs d)] 9))
  have S1 := hide ((unhide HB).2.trans (s1.alloc (.cells #[.string (bs [83,67,79,82,69,68]), .string (bs d)] 9)))
  have HP := hide (putLine_ok hb1 w1.heap.size 0 2 [[83,67,79,82,69,68], d] (two_tx w1 _ d) (by simp) (by simp) (by simp) (by have := (unhide H).2.2.2.2.2; simp only [List.length_nil]; omega))
  clear s1 hb1 HI
  go_wp2_with fail
  refine (unhide HP).mono ?_
  rintro e w2 ⟨rfl, k2, b2, -⟩
  have K2 := hide (And.intro k2 (((unhide S1).below (Nat.le_refl _) (fun _ x => x.elim)).trans b2))
  clear k2 b2 HP
  go_wp2_with fail
  go_loopw [16] (fun i wr => ∃ k : Nat, i = iv k ∧ Hid (k ≤ n ∧ Bld wr w.heap.size w.heap.size (lineL [[83,67,79,82,69,68], d] ++ ((ms.take k).map fun m => lineL [m.name, m.text]).flatten) ∧ Below w.heap.size w wr)) (fun i _ => n - (RowKit.intOf i).toNat)
  case atStart => exact ⟨0, rfl, hide ⟨Nat.zero_le _, by simpa using (unhide K2).1, (unhide K2).2⟩⟩
  case round =>
    obtain ⟨k, rfl, HJ⟩ := hrel
    by_cases hlt : k < n
    · have hlt' : ((k : Int) < n) = True := by simp; omega
      obtain ⟨m, hx⟩ : ∃ x, ms[k]? = some x := ⟨_, List.getElem?_eq_getElem (by rw [(unhide H).2.2.1]; exact hlt)⟩
      obtain ⟨g, o, rfl, x0, x1, hg⟩ := (unhide H).2.1 k m hx
      obtain ⟨nm, bt, tx⟩ := m
      have c0 : wr.cell? ⟨g, o + k * 2, none⟩ = some (sv nm) := ((unhide HJ).2.2.cell hg).trans x0
      have c1 : wr.cell? ⟨g, o + k * 2 + 1, none⟩ = some (.float .f64 bt) := ((unhide HJ).2.2.cell hg).trans x1
      have hmem := (unhide H).2.2.2.1 _ (List.mem_of_getElem? hx)
      have hfl := flat_take (fun m : Mb => lineL [m.name, m.text]) ms k _ hx
      have hlen : ((ms.take k).map fun m => lineL [m.name, m.text]).flatten.length ≤ 100 * 30000 := by
        have h1 := flat_len (fun m : Mb => lineL [m.name, m.text]) 30000 (ms.take k) fun x hx => by
          have h2 := (unhide H).2.2.2.1 x (List.mem_of_mem_take hx)
          show (lineL [x.name, x.text]).length ≤ _
          rw [line2_len]; simp; omega
        have h3 : (ms.take k).length ≤ 100 := by rw [List.length_take]; omega
        have := Nat.mul_le_mul_right 30000 h3
        omega
      have HT := hide hmem
      have HL := hide hlen
      have HN := hide (And.intro hlt hfl)
      have hst : ∀ (a : Addr) (x : Nat) m w, (store a (.float .f64 x) m).run Tryd.prog w = stored Tryd.prog w a (.float .f64 x) m := fun a x m w => run_store Tryd.prog w a _ m rfl
      have hk100 : k < 100 := by omega
      clear hlt hx hg x0 x1 hmem hfl hlen
      go_wp2_with fail
      have al : Still wr (wr.alloc (.cells #[sv nm, .float .f64 bt] 39)) := (Fr.refl _ wr).alloc _
      obtain ⟨WA, hWA⟩ : ∃ WA, (wr.alloc (.cells #[sv nm, .float .f64 bt] 39)).drew = WA := ⟨_, rfl⟩
      have aD : Still wr WA := by rw [← hWA]; exact al.drew
      have o0 : WA.heap[wr.heap.size]? = some (.cells #[sv nm, .float .f64 bt] 39) := by rw [← hWA]; exact heap_alloc_new wr _
      have kn : Kn W WA := Kn.still ⟨(unhide H).1.lk, (unhide H).1.le.trans ((unhide HJ).2.2.mono (unhide H).1.size)⟩ aD
      have HX := hide ((unhide HT).2.2 WA kn.look)
      have HO := hide (And.intro o0 (And.intro aD kn))
      have S0 : WA.cell? ⟨wr.heap.size, 0, none⟩ = some (sv nm) := cell_of_obj o0 0
      have S1' : WA.cell? ⟨wr.heap.size, 1, none⟩ = some (.float .f64 bt) := cell_of_obj o0 1
      clear al aD o0 kn c0 c1
      refine wp_region_held_drew (S := fun w' => w'.cell? ⟨wr.heap.size, 0, none⟩ = some (sv nm) ∧ w'.cell? ⟨wr.heap.size, 1, none⟩ = some (.float .f64 bt)) (by kernel_rfl) (by rw [hWA]; exact ⟨S0, S1'⟩) (fun hHeld => ?_)
      rw [hWA] at hHeld ⊢
      clear S0 S1' hWA
      refine take_l 0 (v := ?_) rfl (by kernel_rfl) (by kernel_rfl) (by kernel_rfl) (fun _ _ _ h => h) (Or.inl ⟨by rfl, ?_⟩) hHeld ?_
      rotate_left
      · (intro w hSw; (try dsimp only at hSw); go_simp; (try with_reducible rfl))
      simp only [Act.put, List.setIfInBounds_toArray, List.set_cons_zero, List.set_cons_succ]
      refine take_l 1 (v := ?_) rfl (by kernel_rfl) (by kernel_rfl) (by kernel_rfl) (fun _ _ _ h => h) (Or.inl ⟨by rfl, ?_⟩) hHeld ?_
      rotate_left
      · (intro w hSw; (try dsimp only at hSw); go_simp; (try with_reducible rfl))
      simp only [Act.put, List.setIfInBounds_toArray, List.set_cons_zero, List.set_cons_succ]
      refine take_l 2 (v := ?_) rfl (by kernel_rfl) (by kernel_rfl) (by kernel_rfl) (fun _ _ _ h => h) (Or.inl ⟨by rfl, ?_⟩) hHeld ?_
      rotate_left
      · (intro w hSw; (try dsimp only at hSw); go_simp; (try with_reducible rfl))
      simp only [Act.put, List.setIfInBounds_toArray, List.set_cons_zero, List.set_cons_succ]
      refine take_l 3 (v := ?_) rfl (by kernel_rfl) (by kernel_rfl) (by kernel_rfl) (fun _ _ _ h => h) (Or.inl ⟨by rfl, ?_⟩) hHeld ?_
      rotate_left
      · (intro w hSw; (try dsimp only at hSw); go_simp; (try with_reducible rfl))
      simp only [Act.put, List.setIfInBounds_toArray, List.set_cons_zero, List.set_cons_succ]
      refine take_l 4 (v := ?_) rfl (by kernel_rfl) (by kernel_rfl) (by kernel_rfl) (fun _ _ _ h => h) (Or.inl ⟨by rfl, ?_⟩) hHeld ?_
      rotate_left
      · (intro w hSw; (try dsimp only at hSw); go_simp; (try with_reducible rfl))
      simp only [Act.put, List.setIfInBounds_toArray, List.set_cons_zero, List.set_cons_succ]
      refine wpAnyH_ready (rs := [5]) (by kernel_rfl) (by simp) ?_
      refine AllReadyH.cons rfl (fun K hK => ?_) AllReadyH.nil
      go_simp
      go_wp2_with fail
      refine (unhide HX).mono ?_
      rintro e w4 ⟨rfl, b4⟩
      have s4 := still_of b4
      have a5 : Still w4 (w4.alloc (.cells #[.string (bs nm), .string (bs tx)] 9)) := (Fr.refl _ w4).alloc _
      have S5 := hide ((unhide HO).2.1.trans (s4.trans a5))
      have HY := hide (And.intro (s4.obj (unhide HO).1 (fun x => x)) ((s4.trans a5).obj (unhide HO).1 (fun x => x)))
      refine hK.out _ _ ⟨cell_of_obj (unhide HY).1 0, cell_of_obj (unhide HY).1 1⟩ (fun hHeld => ?_)
      clear hK K HX b4 s4 a5 hHeld
      refine wpAnyH_ready (rs := [6]) (by kernel_rfl) (by simp) ?_
      refine AllReadyH.cons rfl (fun K hK => ?_) AllReadyH.nil
      go_simp
      have hHeld : (w4.alloc (.cells #[.string (bs nm), .string (bs tx)] 9)).cell? ⟨wr.heap.size, 0, none⟩ = some (sv nm) ∧ (w4.alloc (.cells #[.string (bs nm), .string (bs tx)] 9)).cell? ⟨wr.heap.size, 1, none⟩ = some (.float .f64 bt) := ⟨cell_of_obj (unhide HY).2 0, cell_of_obj (unhide HY).2 1⟩
      refine hK.out _ _ hHeld (fun hHeld => ?_)
      clear hK K hHeld
      have k5 := (unhide HJ).2.1.still (unhide S5)
      have HP5 := hide (putLine_ok k5 w4.heap.size 0 2 [nm, tx] (two_tx w4 nm tx) (by simp) (by simp) (by simp) (by
        have h1 := (unhide H).2.2.2.2.2; have h2 := unhide HL; have h3 := (unhide HT).1; have h4 := (unhide HT).2.1
        replace h3 : nm.length ≤ 10000 := h3
        replace h4 : tx.length ≤ 1000 := h4
        rw [List.length_append, line2_len nm]; simp only [List.length_append, List.length_cons, List.length_nil]; omega))
      have hne : wr.heap.size ≠ w.heap.size := by have := (unhide HJ).2.1.lt; omega
      have HNE := hide hne
      clear k5 hne
      refine wpAnyH_ready (rs := [7]) (by kernel_rfl) (by simp) ?_
      refine AllReadyH.cons rfl (fun K hK => ?_) AllReadyH.nil
      go_simp
      go_wp2_with fail
      refine (unhide HP5).mono ?_
      rintro e w6 ⟨rfl, k6, b6, ap⟩
      have o6 := (ap.ok wr.heap.size ⟨unhide HNE, _, _, _, (unhide HY).2, by decide⟩).trans (unhide HY).2
      have K6 := hide (And.intro k6 ((unhide HJ).2.2.trans (((unhide S5).below (unhide HJ).2.2.size (fun _ x => x.elim)).trans b6)))
      refine hK.out _ _ ⟨cell_of_obj o6 0, cell_of_obj o6 1⟩ (fun _ => ?_)
      clear hK K k6 b6 HP5 ap o6
      refine wpAnyH_done (by kernel_rfl) ?_ _
      go_wp2
      exact ⟨⟨k + 1, by go_num, hide ⟨by have := (unhide HN).1; omega, by rw [(unhide HN).2, ← List.append_assoc]; exact (unhide K6).1, (unhide K6).2⟩⟩, by have := (unhide HN).1; simp [RowKit.intOf]; omega⟩
    · have hlt' : ((k : Int) < n) = False := by simp; omega
      have hkn : k = n := by have := (unhide HJ).1; omega
      have k4 := (unhide HJ).2.1
      rw [List.take_of_length_le (by rw [(unhide H).2.2.1]; omega)] at k4
      have HS := hide (bstring_ok k4)
      clear hlt hkn k4
      go_wp2_with fail
      refine (unhide HS).mono ?_
      rintro e w3 ⟨rfl, b3⟩
      have B3 := hide ((unhide HJ).2.2.trans b3)
      clear b3 HS
      go_wp2
      go_ret
      exact ⟨rfl, Fr.ofBelow (unhide B3)⟩
end Go.Proofs.YticflknfkaoejaaDoor
