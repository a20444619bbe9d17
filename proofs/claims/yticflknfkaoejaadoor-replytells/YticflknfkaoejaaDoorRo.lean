/- Reply: pairs and members are told. -/
import Derived.Test.YticflknfkaoejaaDoorTn
namespace Go.Proofs.YticflknfkaoejaaDoor
open Go.RowKit

/-- Pairs that are read. -/
def Prs (w : World) (p : Option Addr) (ps : List (List UInt8 × List UInt8)) : Prop := ∀ i k v, ps[i]? = some (k, v) → ∃ g o a c, p = some ⟨g, o, none⟩ ∧ w.cell? ⟨g, o + i * 2, none⟩ = some (sv k) ∧ w.cell? ⟨g, o + i * 2 + 1, none⟩ = some (.slice a v.length c) ∧ Rd w a v ∧ g < w.heap.size
def pairsL (ps : List (List UInt8 × List UInt8)) : List UInt8 := lineL [[80,65,73,82,83], Lib.decDigits ps.length] ++ (ps.map fun p => valueL p.1 p.2).flatten
theorem valueL_len (k x : List UInt8) (h : x.length ≤ 1000000) : (valueL k x).length ≤ k.length + x.length + 23 := by
  unfold valueL
  rw [line2_len]
  have := dec_small x.length h
  simp only [List.length_append, List.length_cons, List.length_nil]; omega
theorem flat_take {α : Type} (f : α → List UInt8) (l : List α) (k : Nat) (x : α) (h : l[k]? = some x) : ((l.take (k + 1)).map f).flatten = ((l.take k).map f).flatten ++ f x := by
  rw [List.take_add_one, h, List.map_append, List.flatten_append]
  simp
theorem flat_len {α : Type} (f : α → List UInt8) (N : Nat) : ∀ l : List α, (∀ x ∈ l, (f x).length ≤ N) → (l.map f).flatten.length ≤ l.length * N
  | [], _ => by simp
  | x :: l, h => by
    have := flat_len f N l fun y hy => h y (by simp [hy])
    have hx := h x (by simp)
    simp only [List.map_cons, List.flatten_cons, List.length_append, List.length_cons, Nat.succ_mul]; omega

set_option maxRecDepth 100000 in
set_option maxHeartbeats 4000000 in
theorem rpairs_ok {W w : World} (hK : Kn W w) (p : Option Addr) (c : Nat) (ps : List (List UInt8 × List UInt8)) (hp : Prs w p ps) (hn : ps.length ≤ 100) (hs : ∀ k v, (k, v) ∈ ps → k.length ≤ 10000 ∧ v.length ≤ 10000) :
    Calls Tryd.prog 13 #[.slice p ps.length c] w fun e w' => e = .returned (.string (bs (pairsL ps))) ∧ Still w w' := by
  have hit : Lib.itoa (ps.length : Int) = Lib.decDigits ps.length := by unfold Lib.itoa; rw [if_neg (by omega)]; rfl
  have hI := fun (w1 : World) (k : Kn W w1) => itoa_ok (ps.length : Int) (by omega) (by omega) k
  rw [hit] at hI
  have hd := dec_small ps.length (by omega)
  unfold pairsL
  obtain ⟨d, hdd⟩ : ∃ d, Lib.decDigits ps.length = d := ⟨_, rfl⟩
  rw [hdd] at hI hd ⊢
  have hb := Bld.new w
  have hsw : Still w (w.alloc (.cells #[.pointer none, .slice none 0 0] 67)) := (Fr.refl _ w).alloc _
  have HI := hide (hI _ (hK.still hsw))
  have hh : (lineL [[80,65,73,82,83], d]).length ≤ 27 := by rw [line2_len]; simp; omega
  obtain ⟨n, hn'⟩ : ∃ n, ps.length = n := ⟨_, rfl⟩
  rw [hn'] at hn HI ⊢
  have H := hide (And.intro hK (And.intro hp (And.intro hn' (And.intro hs (And.intro hd hh)))))
  have HB := hide (And.intro hb hsw)
  clear hK hp hs hit hI hd hdd hb hsw hn' hh
  go_enter Tryd.func13, Tryd.ntmps13
  go_wp2_with fail
  refine (unhide HI).mono ?_
  rintro e w1 ⟨rfl, s1⟩
  have hb1 := (unhide HB).1.still (s1.alloc (.cells #[.string (bs [80,65,73,82,83]), .string (bs d)] 9))
  have S1 := hide ((unhide HB).2.trans (s1.alloc (.cells #[.string (bs [80,65,73,82,83]), .string (bs d)] 9)))
  have HP := hide (putLine_ok hb1 w1.heap.size 0 2 [[80,65,73,82,83], d] (two_tx w1 _ d) (by simp) (by simp) (by simp) (by have := (unhide H).2.2.2.2.2; simp only [List.length_nil]; omega))
  clear s1 hb1 HI
  go_wp2_with fail
  refine (unhide HP).mono ?_
  rintro e w2 ⟨rfl, k2, b2, -⟩
  have K2 := hide (And.intro k2 (((unhide S1).below (Nat.le_refl _) (fun _ x => x.elim)).trans b2))
  clear k2 b2 HP
  go_wp2_with fail
  go_loopw [16] (fun i wr => ∃ k : Nat, i = iv k ∧ Hid (k ≤ n ∧ Bld wr w.heap.size w.heap.size (lineL [[80,65,73,82,83], d] ++ ((ps.take k).map fun p => valueL p.1 p.2).flatten) ∧ Below w.heap.size w wr)) (fun i _ => n - (RowKit.intOf i).toNat)
  case atStart => exact ⟨0, rfl, hide ⟨Nat.zero_le _, by simpa using (unhide K2).1, (unhide K2).2⟩⟩
  case round =>
    obtain ⟨k, rfl, HJ⟩ := hrel
    by_cases hlt : k < n
    · have hlt' : ((k : Int) < n) = True := by simp; omega
      obtain ⟨⟨key, val⟩, hx⟩ : ∃ x, ps[k]? = some x := ⟨_, List.getElem?_eq_getElem (by rw [(unhide H).2.2.1]; exact hlt)⟩
      obtain ⟨g, o, a, cc, rfl, x0, x1, hrd, hg⟩ := (unhide H).2.1 k key val hx
      have c0 : wr.cell? ⟨g, o + k * 2, none⟩ = some (sv key) := ((unhide HJ).2.2.cell hg).trans x0
      have c1 : wr.cell? ⟨g, o + k * 2 + 1, none⟩ = some (.slice a val.length cc) := ((unhide HJ).2.2.cell hg).trans x1
      have hrd2 : Rd wr a val := hrd.below (unhide HJ).2.2 hrd.lt
      have hmem := (unhide H).2.2.2.1 key val (List.mem_of_getElem? hx)
      have hfl := flat_take (fun p : List UInt8 × List UInt8 => valueL p.1 p.2) ps k (key, val) hx
      have hlen : ((ps.take k).map fun p => valueL p.1 p.2).flatten.length ≤ 100 * 30000 := by
        have h1 := flat_len (fun p : List UInt8 × List UInt8 => valueL p.1 p.2) 30000 (ps.take k) fun x hx => by
          obtain ⟨k', v'⟩ := x
          have h2 := (unhide H).2.2.2.1 k' v' (List.mem_of_mem_take hx)
          have := valueL_len k' v' (by omega)
          show (valueL k' v').length ≤ _
          omega
        have h3 : (ps.take k).length ≤ 100 := by rw [List.length_take]; omega
        have := Nat.mul_le_mul_right 30000 h3
        omega
      have al : Still wr (wr.alloc (.cells #[sv key, .slice a val.length cc] 30)) := (Fr.refl _ wr).alloc _
      have kn : Kn W (wr.alloc (.cells #[sv key, .slice a val.length cc] 30)) := Kn.still ⟨(unhide H).1.lk, (unhide H).1.le.trans ((unhide HJ).2.2.mono (unhide H).1.size)⟩ al
      have HV := hide (putValue_ok kn ((unhide HJ).2.1.still al) key val a cc (hrd2.still al) hrd.lt (by omega) (by have := (unhide H).2.2.2.2.2; rw [List.length_append]; omega))
      have HN := hide (And.intro hlt hfl)
      have AL := hide ((unhide HJ).2.2.trans (al.below (unhide HJ).2.2.size (fun _ x => x.elim)))
      have hk100 : k < 100 := by omega
      clear hlt hx hrd hg x0 x1 hrd2 hmem hfl hlen al kn
      go_wp2_with fail
      refine (unhide HV).mono ?_
      rintro e w3 ⟨rfl, k3, b3⟩
      have K3 := hide (And.intro k3 ((unhide AL).trans b3))
      clear k3 b3 HV
      go_wp2
      exact ⟨⟨k + 1, by go_num, hide ⟨by have := (unhide HN).1; omega, by rw [(unhide HN).2, ← List.append_assoc]; exact (unhide K3).1, (unhide K3).2⟩⟩, by have := (unhide HN).1; simp [RowKit.intOf]; omega⟩
    · have hlt' : ((k : Int) < n) = False := by simp; omega
      have hkn : k = n := by have := (unhide HJ).1; omega
      have k4 := (unhide HJ).2.1
      rw [List.take_of_length_le (by rw [(unhide H).2.2.1]; omega)] at k4
      have HS := hide (bstring_ok k4)
      clear hlt hkn k4
      go_wp2_with fail
      refine (unhide HS).mono ?_
      rintro e w3 ⟨rfl, b3⟩
      have B3 := hide ((unhide HJ).2.2.trans b3)
      clear b3 HS
      go_wp2
      go_ret
      exact ⟨rfl, Fr.ofBelow (unhide B3)⟩
end Go.Proofs.YticflknfkaoejaaDoor
