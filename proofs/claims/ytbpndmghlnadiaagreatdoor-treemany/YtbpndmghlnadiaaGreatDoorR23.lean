/- Joined: Yy Yz Ua. -/
import Derived.Test.YtbpndmghlnadiaaGreatDoorR22
namespace Go.Proofs.YtbpndmghlnadiaaGreatDoor
open Go.RowKit
set_option maxHeartbeats 4000000
set_option maxRecDepth 100000 in
theorem halvedL (a : Option Addr) (n c : Nat) (w : World) (LV RV : Nat -> Value) (SL SR : Nat -> Nat) (Good : Nat -> ByteArray -> Prop) (hn : 1 + 1 <= n) (hn5 : n <= 500)
  (IT : ∀ w', St w w' -> Calls Tryz.prog 224 #[.slice a n c] w' fun e w'' => ∃ v xs, e = .returned v /\ w''.ownsRow w'.heap.size 27 1 v n xs /\ St w' w'')
  (LE : ∀ w', Calls Tryz.prog 226 #[.slice a n c] w' fun e w'' => e = .returned (.int .i64 1) /\ St w' w'')
  (CU : ∀ w', St w w' -> ∀ j, 1 <= j -> j + 1 <= n -> Calls Tryz.prog 222 #[.slice a n c, .int .i64 j] w' fun e w'' => ∃ x, e = .returned (.tuple #[LV j, .string x, RV j]) /\ Good j x /\ St w' w'')
  (ZL : ∀ w', St w w' -> ∀ j, 1 <= j -> j + 1 <= n -> Calls Tryz.prog 125 #[LV j] w' fun e w'' => e = .returned (.int .i64 (SL j)) /\ St w' w'')
  (ZR : ∀ w', St w w' -> ∀ j, 1 <= j -> j + 1 <= n -> Calls Tryz.prog 125 #[RV j] w' fun e w'' => e = .returned (.int .i64 (SR j)) /\ St w' w'')
  (P1 : ∀ j, 1 <= SL j) (hS : ∀ j, SL j <= 100000 /\ SR j <= 100000) :
  Calls Tryz.prog 126 #[.iface 96 (.slice a n c)] w fun e w' => ∃ i x, 1 <= i /\ i + 1 <= n /\ e = .returned (.tuple #[LV i, .string x, RV i]) /\ Good i x /\ (∀ j, 1 <= j -> j + 1 <= n -> max (SL i) (SR i) <= max (SL j) (SR j)) /\ St w w' := by
 have HIT := @Hd _ IT; have HCU := @Hd _ CU; have HZL := @Hd _ ZL; have HZR := @Hd _ ZR; have HP := @Hd _ P1; have HS := @Hd _ hS; have HLE := @Hd _ LE
 clear IT CU ZL ZR P1 hS LE
 go_enter Tryz.func126, Tryz.ntmps126
 go_wp2_with fail
 refine (uh HLE _).mono ?_
 rintro e w1 ⟨rfl, f1⟩
 go_wp2_with fail
 go_loopw [2, 3, 4, 5, 6] (fun v2 v3 v4 v5 v6 wr => ∃ r : Nat, v6 = .int .i64 r /\ 1 <= r /\ r <= n /\ ((r = 1 /\ v5 = .int .i64 0) \/ (∃ (i : Nat) (x : ByteArray), 1 <= i /\ i < r /\ i + 1 <= n /\ v2 = LV i /\ v3 = .string x /\ v4 = RV i /\ v5 = .int .i64 (max (SL i) (SR i) : Nat) /\ Good i x /\ ∀ j, 1 <= j -> j < r -> j + 1 <= n -> max (SL i) (SR i) <= max (SL j) (SR j))) /\ St w wr) (fun _ _ _ _ v6 _ => n + 1 - (intOf v6).toNat)
 case atStart => exact ⟨1, rfl, Nat.le_refl _, by omega, .inl ⟨rfl, rfl⟩, f1⟩
 case round =>
  obtain ⟨r, rfl, h1, h2, hcs, fr⟩ := hrel
  generalize wr = wq at *
  clear wr f1
  have IT := uh HIT wq fr
  go_wp2_with fail
  refine IT.mono ?_
  rintro e w2 ⟨iv, xs, rfl, hiv, f2⟩
  clear IT
  obtain ⟨ia, ic, rfl⟩ := rows_form hiv
  clear hiv
  have f02 : St w w2 := fr.trans' f2 nE
  have LE := uh HLE w2
  go_wp2_with fail
  refine LE.mono ?_
  rintro e w3 ⟨rfl, f3⟩
  clear LE
  have f03 : St w w3 := f02.trans' f3 nE
  have wn : IntKind.i64.wrap ((n : Int) - 1) = (n : Int) - 1 := (wrap_small _ (by omega) (by omega)).1
  by_cases hlt : r + 1 <= n
  ·have hle : ((r : Int) <= (n : Int) - 1) = True := eq_true (by omega)
   have CU := uh HCU w3 f03 r h1 hlt
   go_wp2_with fail
   refine CU.mono ?_
   rintro e w4 ⟨x, rfl, gx, f4⟩
   clear CU
   have f04 : St w w4 := f03.trans' f4 nE
   have ZL := uh HZL w4 f04 r h1 hlt
   go_wp2_with fail
   refine ZL.mono ?_
   rintro e w5 ⟨rfl, f5⟩
   clear ZL
   have f05 : St w w5 := f04.trans' f5 nE
   have ZR := uh HZR w5 f05 r h1 hlt
   go_wp2_with fail
   refine ZR.mono ?_
   rintro e w6 ⟨rfl, f6⟩
   clear ZR
   have f06 : St w w6 := f05.trans' f6 nE
   have HG := Hd (ai gx f06)
   have p1 := uh HP r
   have p2 := uh HS r
   obtain ⟨M, hM⟩ : ∃ M, max (SL r) (SR r) = M := ⟨_, rfl⟩
   have hMi : max ((SL r : Nat) : Int) ((SR r : Nat) : Int) = (M : Int) := by omega
   have hM1 : 1 <= M := by omega
   clear gx f06 f2 f3 f4 f5 f6 fr f02 f03 f04 f05
   rcases hcs with ⟨rfl, rfl⟩ | ⟨i, y, i1, i2, i3, rfl, rfl, rfl, rfl, gi, hmin⟩
   ·have HM := Hd hM
    clear hM p1 p2
    go_wp2_with fail
    obtain ⟨gx, f06⟩ := uh HG
    refine ⟨⟨1 + 1, by simp, by omega, by omega, .inr ⟨1, x, Nat.le_refl _, by omega, hlt, rfl, rfl, rfl, by rw [uh HM], gx, fun j j1 j2 j3 => ?_⟩, f06⟩, by simp [intOf]; omega⟩
    have e : j = 1 := by omega
    subst e
    exact Nat.le_refl _
   ·obtain ⟨Mi, hMd⟩ : ∃ Mi, max (SL i) (SR i) = Mi := ⟨_, rfl⟩
    have hMi1 : 1 <= Mi := by have := uh HP i; omega
    rw [hMd] at hmin ⊢
    have hz : ((Mi : Int) == 0) = false := by simp; omega
    have HM := Hd (ai hM (ai hMd (ai gi hmin)))
    clear hM p1 p2 hMd gi hmin
    by_cases hlM : M < Mi
    ·have hlM' : ((M : Int) < (Mi : Int)) = True := eq_true (by omega)
     go_wp2_with fail
     obtain ⟨gx, f06⟩ := uh HG
     obtain ⟨hM, hMd, gi, hmin⟩ := uh HM
     refine ⟨⟨r + 1, by simp, by omega, by omega, .inr ⟨r, x, h1, by omega, hlt, rfl, rfl, rfl, by rw [hM], gx, fun j j1 j2 j3 => ?_⟩, f06⟩, by simp [intOf]; omega⟩
     by_cases e : j = r
     ·subst e
      exact Nat.le_refl _
     ·have := hmin j j1 (by omega) j3
      omega
    ·have hlM' : ((M : Int) < (Mi : Int)) = False := eq_false (by omega)
     go_wp2_with fail
     obtain ⟨gx, f06⟩ := uh HG
     obtain ⟨hM, hMd, gi, hmin⟩ := uh HM
     refine ⟨⟨r + 1, by simp, by omega, by omega, .inr ⟨i, y, i1, by omega, i3, rfl, rfl, rfl, by rw [hMd], gi, fun j j1 j2 j3 => ?_⟩, f06⟩, by simp [intOf]; omega⟩
     by_cases e : j = r
     ·subst e
      omega
     ·have := hmin j j1 (by omega) j3
      omega
  ·have hle : ((r : Int) <= (n : Int) - 1) = False := eq_false (by omega)
   rcases hcs with ⟨rfl, rfl⟩ | ⟨i, y, i1, i2, i3, rfl, rfl, rfl, rfl, gi, hmin⟩
   ·exact absurd hn hlt
   ·have HM := Hd (ai gi (ai hmin f03))
    clear gi hmin f02 f03 f2 f3 fr
    go_wp2_with fail
    go_ret3
    obtain ⟨gi, hmin, f03⟩ := uh HM
    exact ⟨i, y, i1, i3, rfl, gi, fun j j1 j2 => hmin j j1 (by omega) j2, f03⟩
set_option maxRecDepth 100000 in
theorem halvedB (hh : Nat) (ba : Option Addr) (nb bc : Nat) (ka : Option Addr) (n kc : Nat) (w : World) (LV RV : Nat -> Value) (SL SR : Nat -> Nat) (Good : Nat -> ByteArray -> Prop) (hn : 2 + 2 <= n) (hn5 : n <= 500)
  (IT : ∀ w', St w w' -> Calls Tryz.prog 218 #[brV hh ba nb bc ka n kc] w' fun e w'' => ∃ v xs, e = .returned v /\ w''.ownsRow w'.heap.size 27 1 v n xs /\ St w' w'')
  (LE : ∀ w', Calls Tryz.prog 220 #[brV hh ba nb bc ka n kc] w' fun e w'' => e = .returned (.int .i64 2) /\ St w' w'')
  (CU : ∀ w', St w w' -> ∀ j, 2 <= j -> j + 2 <= n -> Calls Tryz.prog 216 #[brV hh ba nb bc ka n kc, .int .i64 j] w' fun e w'' => ∃ x, e = .returned (.tuple #[LV j, .string x, RV j]) /\ Good j x /\ St w' w'')
  (ZL : ∀ w', St w w' -> ∀ j, 2 <= j -> j + 2 <= n -> Calls Tryz.prog 125 #[LV j] w' fun e w'' => e = .returned (.int .i64 (SL j)) /\ St w' w'')
  (ZR : ∀ w', St w w' -> ∀ j, 2 <= j -> j + 2 <= n -> Calls Tryz.prog 125 #[RV j] w' fun e w'' => e = .returned (.int .i64 (SR j)) /\ St w' w'')
  (P1 : ∀ j, 1 <= SL j) (hS : ∀ j, SL j <= 100000 /\ SR j <= 100000) :
  Calls Tryz.prog 126 #[.iface 92 (brV hh ba nb bc ka n kc)] w fun e w' => ∃ i x, 2 <= i /\ i + 2 <= n /\ e = .returned (.tuple #[LV i, .string x, RV i]) /\ Good i x /\ (∀ j, 2 <= j -> j + 2 <= n -> max (SL i) (SR i) <= max (SL j) (SR j)) /\ St w w' := by
 have HIT := @Hd _ IT; have HCU := @Hd _ CU; have HZL := @Hd _ ZL; have HZR := @Hd _ ZR; have HP := @Hd _ P1; have HS := @Hd _ hS; have HLE := @Hd _ LE
 clear IT CU ZL ZR P1 hS LE
 go_enter Tryz.func126, Tryz.ntmps126
 go_wp2_with fail
 refine (uh HLE _).mono ?_
 rintro e w1 ⟨rfl, f1⟩
 go_wp2_with fail
 go_loopw [2, 3, 4, 5, 6] (fun v2 v3 v4 v5 v6 wr => ∃ r : Nat, v6 = .int .i64 r /\ 2 <= r /\ r <= n /\ ((r = 2 /\ v5 = .int .i64 0) \/ (∃ (i : Nat) (x : ByteArray), 2 <= i /\ i < r /\ i + 2 <= n /\ v2 = LV i /\ v3 = .string x /\ v4 = RV i /\ v5 = .int .i64 (max (SL i) (SR i) : Nat) /\ Good i x /\ ∀ j, 2 <= j -> j < r -> j + 2 <= n -> max (SL i) (SR i) <= max (SL j) (SR j))) /\ St w wr) (fun _ _ _ _ v6 _ => n + 1 - (intOf v6).toNat)
 case atStart => exact ⟨2, rfl, Nat.le_refl _, by omega, .inl ⟨rfl, rfl⟩, f1⟩
 case round =>
  obtain ⟨r, rfl, h1, h2, hcs, fr⟩ := hrel
  generalize wr = wq at *
  clear wr f1
  have IT := uh HIT wq fr
  go_wp2_with fail
  refine IT.mono ?_
  rintro e w2 ⟨iv, xs, rfl, hiv, f2⟩
  clear IT
  obtain ⟨ia, ic, rfl⟩ := rows_form hiv
  clear hiv
  have f02 : St w w2 := fr.trans' f2 nE
  have LE := uh HLE w2
  go_wp2_with fail
  refine LE.mono ?_
  rintro e w3 ⟨rfl, f3⟩
  clear LE
  have f03 : St w w3 := f02.trans' f3 nE
  have wn : IntKind.i64.wrap ((n : Int) - 2) = (n : Int) - 2 := (wrap_small _ (by omega) (by omega)).1
  by_cases hlt : r + 2 <= n
  ·have hle : ((r : Int) <= (n : Int) - 2) = True := eq_true (by omega)
   have CU := uh HCU w3 f03 r h1 hlt
   go_wp2_with fail
   refine CU.mono ?_
   rintro e w4 ⟨x, rfl, gx, f4⟩
   clear CU
   have f04 : St w w4 := f03.trans' f4 nE
   have ZL := uh HZL w4 f04 r h1 hlt
   go_wp2_with fail
   refine ZL.mono ?_
   rintro e w5 ⟨rfl, f5⟩
   clear ZL
   have f05 : St w w5 := f04.trans' f5 nE
   have ZR := uh HZR w5 f05 r h1 hlt
   go_wp2_with fail
   refine ZR.mono ?_
   rintro e w6 ⟨rfl, f6⟩
   clear ZR
   have f06 : St w w6 := f05.trans' f6 nE
   have HG := Hd (ai gx f06)
   have p1 := uh HP r
   have p2 := uh HS r
   obtain ⟨M, hM⟩ : ∃ M, max (SL r) (SR r) = M := ⟨_, rfl⟩
   have hMi : max ((SL r : Nat) : Int) ((SR r : Nat) : Int) = (M : Int) := by omega
   have hM1 : 1 <= M := by omega
   clear gx f06 f2 f3 f4 f5 f6 fr f02 f03 f04 f05
   rcases hcs with ⟨rfl, rfl⟩ | ⟨i, y, i1, i2, i3, rfl, rfl, rfl, rfl, gi, hmin⟩
   ·have HM := Hd hM
    clear hM p1 p2
    go_wp2_with fail
    obtain ⟨gx, f06⟩ := uh HG
    refine ⟨⟨2 + 1, by simp, by omega, by omega, .inr ⟨2, x, Nat.le_refl _, by omega, hlt, rfl, rfl, rfl, by rw [uh HM], gx, fun j j1 j2 j3 => ?_⟩, f06⟩, by simp [intOf]; omega⟩
    have e : j = 2 := by omega
    subst e
    exact Nat.le_refl _
   ·obtain ⟨Mi, hMd⟩ : ∃ Mi, max (SL i) (SR i) = Mi := ⟨_, rfl⟩
    have hMi1 : 1 <= Mi := by have := uh HP i; omega
    rw [hMd] at hmin ⊢
    have hz : ((Mi : Int) == 0) = false := by simp; omega
    have HM := Hd (ai hM (ai hMd (ai gi hmin)))
    clear hM p1 p2 hMd gi hmin
    by_cases hlM : M < Mi
    ·have hlM' : ((M : Int) < (Mi : Int)) = True := eq_true (by omega)
     go_wp2_with fail
     obtain ⟨gx, f06⟩ := uh HG
     obtain ⟨hM, hMd, gi, hmin⟩ := uh HM
     refine ⟨⟨r + 1, by simp, by omega, by omega, .inr ⟨r, x, h1, by omega, hlt, rfl, rfl, rfl, by rw [hM], gx, fun j j1 j2 j3 => ?_⟩, f06⟩, by simp [intOf]; omega⟩
     by_cases e : j = r
     ·subst e
      exact Nat.le_refl _
     ·have := hmin j j1 (by omega) j3
      omega
    ·have hlM' : ((M : Int) < (Mi : Int)) = False := eq_false (by omega)
     go_wp2_with fail
     obtain ⟨gx, f06⟩ := uh HG
     obtain ⟨hM, hMd, gi, hmin⟩ := uh HM
     refine ⟨⟨r + 1, by simp, by omega, by omega, .inr ⟨i, y, i1, by omega, i3, rfl, rfl, rfl, by rw [hMd], gi, fun j j1 j2 j3 => ?_⟩, f06⟩, by simp [intOf]; omega⟩
     by_cases e : j = r
     ·subst e
      omega
     ·have := hmin j j1 (by omega) j3
      omega
  ·have hle : ((r : Int) <= (n : Int) - 2) = False := eq_false (by omega)
   rcases hcs with ⟨rfl, rfl⟩ | ⟨i, y, i1, i2, i3, rfl, rfl, rfl, rfl, gi, hmin⟩
   ·exact absurd hn hlt
   ·have HM := Hd (ai gi (ai hmin f03))
    clear gi hmin f02 f03 f2 f3 fr
    go_wp2_with fail
    go_ret3
    obtain ⟨gi, hmin, f03⟩ := uh HM
    exact ⟨i, y, i1, i3, rfl, gi, fun j j1 j2 => hmin j j1 (by omega) j2, f03⟩
def Hlv (nu : Nat) (F : Nat -> Prop) (T : Nat -> List Pr -> List Nat -> Prop) (h : Nat) (l : List Pr) (Q : List Nat) (w w' : World) (e : Ending) : Prop :=
 ∃ v1 v2 x n1 n2 l1 l2 Q1 Q2, e = .returned (.tuple #[v1, .string x, v2]) /\ NdO F w' v1 n1 /\ NdO F w' v2 n2 /\ Un nu T h n1 l1 Q1 /\ Un nu T h n2 l2 Q2 /\ n1.size <= 32 /\ n2.size <= 32 /\ l = l1 ++ l2 /\ Q = Q1 ++ Q2 /\ Blw l1 x /\ Nbl l2 x /\ (1 <= x.size /\ x.size <= 80) /\ (2 <= h -> 2 <= n1.items.length /\ 2 <= n2.items.length) /\ St w w'
theorem lf_size (l : List Pr) : (Nd.lf l).size = hsz l.length (kb (l.map (·.1))) := by unfold Nd.size; simp only [Nd.items, Nd.keys, List.length_map]
theorem br_size (hh : Nat) (B : List ByteArray) (ks : List (Nat × Nat)) : (Nd.br hh B ks).size = hsz ks.length (kb B) := by unfold Nd.size; simp only [Nd.items, Nd.keys, List.length_map]
theorem cutZ_block {sz : Nat} {a : Option Addr} {cap l : Nat} {x : Addr} (h : cutZ sz a cap l = some x) : ∃ y, a = some y /\ x.block = y.block := by
 unfold cutZ at h
 split at h
 ·exact ⟨x, h, rfl⟩
 ·cases a with
  | none => cases h
  | some y =>
   simp only [Option.map_some, Option.some.injEq] at h
   refine ⟨y, rfl, ?_⟩
   rw [<- h]
   unfold Addr.add
   split <;> rfl
theorem halves_leaf {nu : Nat} {F : Nat -> Prop} {T : Nat -> List Pr -> List Nat -> Prop} {w : World} (a : Option Addr) (c : Nat) (l : List Pr) (hL : Lf w a c l) (hF : ∀ x, a = some x -> F x.block) (pk : Pok l) (ri : Rise l) (gt : 33 <= (Nd.lf l).size) (le : (Nd.lf l).size <= 46) :
  Calls Tryz.prog 126 #[.iface 96 (.slice a l.length c)] w fun e w' => Hlv nu F T 1 l [] w w' e := by
 rw [lf_size] at gt le
 have hn : l.length <= 46 := by unfold hsz need at le; omega
 have kk := pk.kok
 have ht : (l.map (·.1)).take l.length = l.map (·.1) := List.take_of_length_le (by simp)
 obtain ⟨i0, j1, j2, j3, j4⟩ := cut_leaf l.length (fun i => kb ((l.map (·.1)).take i)) (by simp [kb]) (fun i hi => kb_step kk i (by simpa using hi)) (by show 33 <= hsz l.length (kb ((l.map (·.1)).take l.length)); rw [ht]; exact gt) (by show hsz l.length (kb ((l.map (·.1)).take l.length)) <= 46; rw [ht]; exact le)
 have j3' : hsz i0 (kb ((l.map (·.1)).take i0)) <= 32 := j3
 have j4' : hsz (l.length - i0) (kb ((l.map (·.1)).take l.length) - kb ((l.map (·.1)).take i0)) <= 32 := j4
 rw [ht] at j4'
 have zl : ∀ j, j <= l.length -> (Nd.lf (l.take j)).size = hsz j (kb ((l.map (·.1)).take j)) := fun j hj => by rw [lf_size, List.length_take, List.map_take, Nat.min_eq_left hj]
 have zr : ∀ j, (Nd.lf (l.drop j)).size = hsz (l.length - j) (kb (l.map (·.1)) - kb ((l.map (·.1)).take j)) := fun j => by
  rw [lf_size, List.length_drop, List.map_drop]
  have := kb_split (l.map (·.1)) j
  congr 1
  omega
 have ge : ∀ j (hj : j < l.length), l.getD j default ∈ l := fun j hj => by
  have : l.getD j default = l[j] := by simp [List.getD, List.getElem?_eq_getElem hj]
  rw [this]
  exact List.getElem_mem hj
 have hlt : ∀ j, 1 <= j -> j < l.length -> ltK (l.getD (j - 1) default).1 (l.getD j default).1 := fun j h1 h2 => by
  have := List.pairwise_iff_getElem.1 ri (j - 1) j (by omega) h2 (by omega)
  simpa [List.getD, List.getElem?_eq_getElem h2, List.getElem?_eq_getElem (show j - 1 < l.length by omega)] using this
 have hc := hL.cap
 have SL : ∀ w', St w w' -> ∀ j, j <= l.length -> NdO F w' (.iface 96 (.slice a j c)) (.lf (l.take j)) := fun w' f j hj => by
  have := (hL.still f).take hj
  rw [pcl_take] at this
  refine ⟨a, c, by rw [List.length_take, Nat.min_eq_left hj], ?_, hF⟩
  unfold Lf
  rw [List.length_take, Nat.min_eq_left hj]
  exact this
 have SR : ∀ w', St w w' -> ∀ j, j <= l.length -> NdO F w' (.iface 96 (.slice (cutZ 2 a c j) (l.length - j) (c - j))) (.lf (l.drop j)) := fun w' f j hj => by
  have := (hL.still f).drop j hj
  rw [pcl_drop] at this
  refine ⟨cutZ 2 a c j, c - j, by rw [List.length_drop], ?_, fun x hx => ?_⟩
  ·unfold Lf
   rw [List.length_drop]
   exact this
  ·obtain ⟨y, hy, e⟩ := cutZ_block hx
   rw [e]
   exact hF y hy
 have K := halvedL a l.length c w (fun j => .iface 96 (.slice a j c)) (fun j => .iface 96 (.slice (cutZ 2 a c j) (l.length - j) (c - j))) (fun j => (Nd.lf (l.take j)).size) (fun j => (Nd.lf (l.drop j)).size) (fun j x => Btw (l.getD (j - 1) default).1 (l.getD j default).1 x) (by unfold hsz need at gt; have := kb_le kk; simp at this; omega) (by omega)
  (fun w' f => (l_items a c l w' (hL.still f) (by omega)).mono fun e w'' ⟨v, e1, e2, e3⟩ => ⟨v, _, e1, e2, e3⟩)
  (fun w' => (l_least a l.length c w').mono fun e w'' ⟨e1, e2⟩ => ⟨e1, by rw [e2]; exact Fr.refl _ _⟩)
  (fun w' f j h1 h2 => l_cut a c l j w' (hL.still f) h1 (by omega) (by omega) (hlt j h1 (by omega)) (pk _ (ge (j - 1) (by omega))).1.2 (pk _ (ge j (by omega))).1.2)
  (fun w' f j h1 h2 => y_sizeN (SL w' f j (by omega)) (pk.sub (List.take_sublist ..)).kok (by simp [Nd.items]; omega) (by simp [Nd.keys]; omega) (fun hh B ks e => by cases e))
  (fun w' f j h1 h2 => y_sizeN (SR w' f j (by omega)) (pk.sub (List.drop_sublist ..)).kok (by simp [Nd.items]; omega) (by simp [Nd.keys]; omega) (fun hh B ks e => by cases e))
  (fun j => Nd.size_pos _)
  (fun j => by
   have h1 := kb_le (pk.sub (List.take_sublist j l)).kok
   have h2 := kb_le (pk.sub (List.drop_sublist j l)).kok
   simp only [List.length_map, List.length_take, List.length_drop] at h1 h2
   refine ⟨?_, ?_⟩
   ·show (Nd.lf (l.take j)).size <= _
    rw [lf_size, List.length_take]
    unfold hsz need
    omega
   ·show (Nd.lf (l.drop j)).size <= _
    rw [lf_size, List.length_drop]
    unfold hsz need
    omega)
 refine K.mono ?_
 rintro e w' ⟨i, x, h1, h2, rfl, bt, hmin, f⟩
 have hm := hmin i0 j1 (by omega)
 rw [zl i0 (by omega), zr i0] at hm
 have hil : i < l.length := by omega
 obtain ⟨b1, b2⟩ := bt.parts ri h1 hil
 have kx := (pk _ (ge i hil)).1
 refine ⟨_, _, x, .lf (l.take i), .lf (l.drop i), l.take i, l.drop i, [], [], rfl, SL w' f i (by omega), SR w' f i (by omega), .inl ⟨rfl, rfl, ?_, rfl⟩, .inl ⟨rfl, rfl, ?_, rfl⟩, by omega, by omega, (List.take_append_drop ..).symm, rfl, b1, b2, ⟨bt.s1, by have := bt.s2; omega⟩, fun h => by omega, f⟩
 ·intro h0
  have := congrArg List.length h0
  rw [List.length_take, List.length_nil] at this
  omega
 ·intro h0
  have := congrArg List.length h0
  rw [List.length_drop, List.length_nil] at this
  omega
theorem halves_branch {nu sz : Nat} {f : Nat -> Int} {F : Nat -> Prop} {w : World} (h : Nat) (ba : Option Addr) (bc : Nat) (B : List ByteArray) (ka : Option Addr) (kc : Nat) (ks : List (Nat × List Pr × List Nat)) (l : List Pr) (Q : List Nat) (hB : Kys w ba bc B) (hK : Kds w ka kc (ks.map (kidN nu))) (hF : ∀ x, ba = some x -> F x.block) (hF2 : ∀ x, ka = some x -> F x.block) (h2 : 2 <= h)
  (fo : For (Tr nu sz f (h - 1)) B ks l Q) (hkk : ∀ k ∈ ks.map (kidN nu), k.1 < 4294967296 /\ k.2 < 2147483648) (gt : 33 <= (Nd.br h B (ks.map (kidN nu))).size) (le : (Nd.br h B (ks.map (kidN nu))).size <= 46) :
  Calls Tryz.prog 126 #[.iface 92 (brV h ba B.length bc ka (ks.map (kidN nu)).length kc)] w fun e w' => Hlv nu F (Tr nu sz f (h - 1)) h l Q w w' e := by
 rw [br_size, List.length_map] at gt le
 have hn : ks.length <= 46 := by unfold hsz need at le; omega
 have kk : Kok B := fo.2.2.2.2
 have hlen : ks.length = B.length + 1 := by have := fo.2.2.2.1.len; simpa using this
 have hmk : (ks.map (kidN nu)).length = ks.length := List.length_map _
 have ht : B.take (ks.length - 1) = B := List.take_of_length_le (by omega)
 obtain ⟨i0, j1, j2, j3, j4⟩ := cut_branch ks.length (fun i => kb (B.take i)) (by simp [kb]) (fun i hi => kb_step kk i (by omega)) (by show 33 <= hsz ks.length (kb (B.take (ks.length - 1))); rw [ht]; exact gt) (by show hsz ks.length (kb (B.take (ks.length - 1))) <= 46; rw [ht]; exact le)
 have j3' : hsz i0 (kb (B.take (i0 - 1))) <= 32 := j3
 have j4' : hsz (ks.length - i0) (kb (B.take (ks.length - 1)) - kb (B.take i0)) <= 32 := j4
 rw [ht] at j4'
 have zl : ∀ j, j <= ks.length -> (Nd.br h (B.take (j - 1)) ((ks.take j).map (kidN nu))).size = hsz j (kb (B.take (j - 1))) := fun j hj => by rw [br_size, List.length_map, List.length_take, Nat.min_eq_left hj]
 have zr : ∀ j, (Nd.br h (B.drop j) ((ks.drop j).map (kidN nu))).size = hsz (ks.length - j) (kb B - kb (B.take j)) := fun j => by
  rw [br_size, List.length_map, List.length_drop]
  have := kb_split B j
  congr 1
  omega
 have SL : ∀ w', St w w' -> ∀ j, 1 <= j -> j <= B.length -> NdO F w' (.iface 92 (brV h ba (j - 1) bc ka j kc)) (.br h (B.take (j - 1)) ((ks.take j).map (kidN nu))) := fun w' f j h1 hj => by
  have t1 := (hB.still f).take (show j - 1 <= B.length by omega)
  have t2 := (hK.still f).take (show j <= (ks.map (kidN nu)).length by omega)
  rw [kcl_take, <- List.map_take] at t2
  rw [Nat.mul_one, <- List.map_take] at t1
  have e1 : (B.take (j - 1)).length = j - 1 := by rw [List.length_take]; omega
  have e2 : ((ks.take j).map (kidN nu)).length = j := by rw [List.length_map, List.length_take]; omega
  refine ⟨ba, bc, ka, kc, by rw [e1, e2], ?_, ?_, hF, hF2⟩
  ·unfold Kys
   rw [e1]
   exact t1
  ·unfold Kds
   rw [e2]
   exact t2
 have SR : ∀ w', St w w' -> ∀ j, 1 <= j -> j <= B.length -> NdO F w' (.iface 92 (brV h (cutZ 1 ba bc j) (B.length - j) (bc - j) (cutZ 2 ka kc j) (ks.length - j) (kc - j))) (.br h (B.drop j) ((ks.drop j).map (kidN nu))) := fun w' f j h1 hj => by
  have t1 := (hB.still f).drop j hj
  have t2 := (hK.still f).drop j (show j <= (ks.map (kidN nu)).length by omega)
  rw [kcl_drop, <- List.map_drop, hmk] at t2
  rw [Nat.mul_one, <- List.map_drop] at t1
  have e1 : (B.drop j).length = B.length - j := List.length_drop
  have e2 : ((ks.drop j).map (kidN nu)).length = ks.length - j := by rw [List.length_map, List.length_drop]
  refine ⟨cutZ 1 ba bc j, bc - j, cutZ 2 ka kc j, kc - j, by rw [e1, e2], ?_, ?_, fun x hx => ?_, fun x hx => ?_⟩
  ·unfold Kys
   rw [e1]
   exact t1
  ·unfold Kds
   rw [e2]
   exact t2
  ·obtain ⟨y, hy, e⟩ := cutZ_block hx
   rw [e]
   exact hF y hy
  ·obtain ⟨y, hy, e⟩ := cutZ_block hx
   rw [e]
   exact hF2 y hy
 have hsub1 : ∀ j, ∀ k ∈ (ks.take j).map (kidN nu), k.1 < 4294967296 /\ k.2 < 2147483648 := fun j k hk => by
  obtain ⟨q, hq, rfl⟩ := List.mem_map.1 hk
  exact hkk _ (List.mem_map.2 ⟨q, List.mem_of_mem_take hq, rfl⟩)
 have hsub2 : ∀ j, ∀ k ∈ (ks.drop j).map (kidN nu), k.1 < 4294967296 /\ k.2 < 2147483648 := fun j k hk => by
  obtain ⟨q, hq, rfl⟩ := List.mem_map.1 hk
  exact hkk _ (List.mem_map.2 ⟨q, List.mem_of_mem_drop hq, rfl⟩)
 have hn4 : 4 <= ks.length := by omega
 rw [hmk]
 have K := halvedB h ba B.length bc ka ks.length kc w (fun j => .iface 92 (brV h ba (j - 1) bc ka j kc)) (fun j => .iface 92 (brV h (cutZ 1 ba bc j) (B.length - j) (bc - j) (cutZ 2 ka kc j) (ks.length - j) (kc - j))) (fun j => (Nd.br h (B.take (j - 1)) ((ks.take j).map (kidN nu))).size) (fun j => (Nd.br h (B.drop j) ((ks.drop j).map (kidN nu))).size) (fun j x => x = B.getD (j - 1) default) (by omega) (by omega)
  (fun w' f => by
   have := b_items h ba B.length bc ka kc (ks.map (kidN nu)) w' (hK.still f) (by omega) hkk
   rw [hmk] at this
   exact this.mono fun e w'' ⟨v, e1, e2, e3⟩ => ⟨v, _, e1, e2, e3⟩)
  (fun w' => b_least h ba B.length bc ka ks.length kc w')
  (fun w' f j h1 h2 => by
   have := b_cut h ba bc B ka kc (ks.map (kidN nu)) j w' (hB.still f) (hK.still f) (by omega) (by omega) (by omega) (by omega) (by omega)
   rw [hmk] at this
   exact this.mono fun e w'' ⟨e1, e2⟩ => ⟨_, e1, rfl, e2⟩)
  (fun w' f j h1 h2 => y_sizeN (SL w' f j (by omega) (by omega)) (kk.take _) (by simp [Nd.items]; omega) (by simp [Nd.keys]; omega) (fun hh B' ks' e => by cases e; exact hsub1 j))
  (fun w' f j h1 h2 => y_sizeN (SR w' f j (by omega) (by omega)) (kk.drop _) (by simp [Nd.items]; omega) (by simp [Nd.keys]; omega) (fun hh B' ks' e => by cases e; exact hsub2 j))
  (fun j => Nd.size_pos _)
  (fun j => by
   have h1 := kb_le (kk.take (j - 1))
   have h2 := kb_le (kk.drop j)
   simp only [List.length_take, List.length_drop] at h1 h2
   refine ⟨?_, ?_⟩
   ·show (Nd.br h (B.take (j - 1)) ((ks.take j).map (kidN nu))).size <= _
    rw [br_size, List.length_map, List.length_take]
    unfold hsz need
    omega
   ·show (Nd.br h (B.drop j) ((ks.drop j).map (kidN nu))).size <= _
    rw [br_size, List.length_map, List.length_drop]
    unfold hsz need
    omega)
 refine K.mono ?_
 rintro e w' ⟨i, x, h1, h3, rfl, rfl, hmin, fs⟩
 have hm := hmin i0 j1 (by omega)
 rw [zl i0 (by omega), zr i0] at hm
 obtain ⟨l1, l2, Q1, Q2, e1, e2, F1, F2, b1, b2⟩ := fo.cut i (by omega) (by omega)
 have kx : 1 <= (B.getD (i - 1) default).size /\ (B.getD (i - 1) default).size <= 80 := by
  have hi : i - 1 < B.length := by omega
  have : B.getD (i - 1) default = B[i - 1] := by simp [List.getD, List.getElem?_eq_getElem hi]
  rw [this]
  exact kk _ (List.getElem_mem hi)
 exact ⟨_, _, _, _, _, l1, l2, Q1, Q2, rfl, SL w' fs i (by omega) (by omega), SR w' fs i (by omega) (by omega), .inr ⟨h2, _, _, rfl, F1⟩, .inr ⟨h2, _, _, rfl, F2⟩, by omega, by omega, e1, e2, b1, b2, kx, fun _ => ⟨by simp [Nd.items]; omega, by simp [Nd.items]; omega⟩, fs⟩
theorem y_halves {nu sz : Nat} {f : Nat -> Int} {F : Nat -> Prop} {w : World} {nv : Value} {n : Nd} {h : Nat} {l : List Pr} {Q : List Nat} (nd : NdO F w nv n) (x : Un nu (Tr nu sz f h) (h + 1) n l Q) (ok : n.Ok) (pk : Pok l) (ri : Rise l) (gt : 33 <= n.size) (le : n.size <= 46) :
  Calls Tryz.prog 126 #[nv] w fun e w' => Hlv nu F (Tr nu sz f h) (h + 1) l Q w w' e := by
 rcases x with ⟨e1, rfl, e3, rfl⟩ | ⟨h2, B, ks, rfl, fo⟩
 ·obtain ⟨a, c, rfl, hL, hF⟩ := nd
  rw [e1]
  exact halves_leaf a c l hL hF pk ri gt le
 ·obtain ⟨ba, bc, ka, kc, rfl, hB, hK, hF, hF2⟩ := nd
  have := halves_branch (f := f) (sz := sz) (h + 1) ba bc B ka kc ks l Q hB hK hF hF2 h2 fo ok.form.2.2.2 gt le
  exact this

section
structure Wr (nu sz : Nat) (w0 : World) (hb sb b : Nat) (T0 : Tay) (A : Ab) (cb : Nat) (w : World) (T : Tay) (P : List (Int × Int)) (tv : Value) (m : Nat) (w' : World) (T' : Tay) (P' : List (Int × Int)) (tv' : Value) (k : Nat) : Prop where
 cg : Cg nu sz w0 hb sb b T0 A cb w' T' P' tv' (m + k)
 len : P'.length <= P.length + 80 * k
 kp : Keeps sb b T cb tv w T' tv' w'
 ch : Chg nu (says P A) k (says P' A)
section
variable {nu sz : Nat} {w w' w0 w1 w2 : World} {hb sb b cb m j k : Nat} {T T0 T' T1 T2 : Tay} {A : Ab} {P P' P1 P2 : List (Int × Int)} {tv tv1 tv2 : Value}
theorem Wrt.wr {g : Nat -> Int} (h : Wrt nu sz w0 hb sb b T0 A cb w T P tv m w' g k) : ∃ T' P' tv', Wr nu sz w0 hb sb b T0 A cb w T P tv m w' T' P' tv' k /\ says P' A = g := by
 obtain ⟨T', P', tv', c, e, l, kp⟩ := h.ex
 exact ⟨T', P', tv', ⟨c, l, kp, by rw [e]; exact h.ch⟩, e⟩
theorem Wr.trans (a : Wr nu sz w0 hb sb b T0 A cb w T P tv m w1 T1 P1 tv1 j) (c : Wr nu sz w0 hb sb b T0 A cb w1 T1 P1 tv1 (m + j) w2 T2 P2 tv2 k) : Wr nu sz w0 hb sb b T0 A cb w T P tv m w2 T2 P2 tv2 (j + k) :=
 ⟨by have := c.cg; rw [Nat.add_assoc] at this; exact this, by have := a.len; have := c.len; omega, a.kp.trans c.kp, a.ch.trans c.ch⟩
theorem Wr.still (a : Wr nu sz w0 hb sb b T0 A cb w T P tv m w1 T1 P1 tv1 j) (f : St w1 w2) : Wr nu sz w0 hb sb b T0 A cb w T P tv m w2 T1 P1 tv1 j := ⟨a.cg.still f, a.len, a.kp.trans (Keeps.still f), a.ch⟩
theorem Wr.after (a : Wr nu sz w0 hb sb b T0 A cb w1 T P tv m w2 T2 P2 tv2 j) (f : St w w1) : Wr nu sz w0 hb sb b T0 A cb w T P tv m w2 T2 P2 tv2 j := ⟨a.cg, a.len, (Keeps.still f).trans a.kp, a.ch⟩
theorem Wr.here (c : Cg nu sz w0 hb sb b T0 A cb w T P tv m) (s : HpS nu (says P A)) : Wr nu sz w0 hb sb b T0 A cb w T P tv m w T P tv 0 := ⟨c, by omega, ⟨Nat.le_refl _, fun _ hk => ⟨rfl, hk⟩⟩, Chg.refl s⟩
end
theorem flat_len {α : Type} (g : α -> List Pr) : ∀ L : List α, (L.map fun a => (g a).length).sum = (L.map g).flatten.length
 | [] => rfl
 | a :: L => by simp [flat_len g L]
theorem Un.pairs {nu h : Nat} {T : Nat -> List Pr -> List Nat -> Prop} {n : Nd} {l : List Pr} {Q : List Nat} (x : Un nu T h n l Q) : n.pairs = l.length := by
 rcases x with ⟨_, rfl, _, _⟩ | ⟨_, B, ks, rfl, fo⟩
 ·rfl
 ·rw [fo.2.1, <- flat_len]
  show ((ks.map (kidN nu)).map (·.2)).sum = _
  rw [List.map_map]
  rfl
theorem sl_kid2 (w W : World) (p q : Nat × Nat) (hW : w.alloc (.cells #[.int .u64 (p.1 : Nat), .int .i64 (p.2 : Nat), .int .u64 (q.1 : Nat), .int .i64 (q.2 : Nat)] 131) = W) : Sl W 2 (some ⟨w.heap.size, 0, none⟩) 2 2 (kcl [p, q]) := by
 have o : W.heap[w.heap.size]? = some (.cells #[.int .u64 (p.1 : Nat), .int .i64 (p.2 : Nat), .int .u64 (q.1 : Nat), .int .i64 (q.2 : Nat)] 131 (0, 0)) := hW ▸ heap_alloc_new w _
 exact ⟨rfl, Nat.le_refl _, (fun e => by cases e), kcl_one, (fun j u hu => ⟨w.heap.size, 0, rfl, by
  rw [Nat.zero_add, cOo o j, <- hu]
  simp [kcl]⟩), (fun x e => by cases e; rfl)⟩
theorem sl_str1 (w W : World) (x : ByteArray) (hW : w.alloc (.cells #[.string x] 9) = W) : Sl W 1 (some ⟨w.heap.size, 0, none⟩) 1 1 ([x].map Value.string) := by
 have o : W.heap[w.heap.size]? = some (.cells #[.string x] 9 (0, 0)) := hW ▸ heap_alloc_new w _
 exact ⟨rfl, Nat.le_refl _, (fun e => by cases e), str_one _, (fun j u hu => ⟨w.heap.size, 0, rfl, by
  rw [Nat.zero_add, cOo o j, <- hu]
  simp⟩), (fun x e => by cases e; rfl)⟩
theorem sl_nil (w : World) (sz : Nat) : Sl w sz none 0 0 [] := ⟨by simp, Nat.le_refl _, fun _ => ⟨rfl, rfl⟩, (fun u hu => by cases hu), (fun j u hu => by simp at hu), (fun x e => by cases e)⟩
section
variable {nu sz : Nat} {w w' w0 : World} {hb sb b cb m : Nat} {T T0 : Tay} {A : Ab} {P : List (Int × Int)} {tv : Value}
def Wtn (nu sz : Nat) (w0 : World) (hb sb b : Nat) (T0 : Tay) (A : Ab) (cb : Nat) (w : World) (T : Tay) (P : List (Int × Int)) (tv : Value) (m h : Nat) (l : List Pr) (w' : World) (kv bv : Value) : Prop :=
 ∃ T' P' tv' k, k <= 2 /\ Wr nu sz w0 hb sb b T0 A cb w T P tv m w' T' P' tv' k /\ ∃ ka kc ba bc B ks Q, kv = .slice ka (ks.map (kidN nu)).length kc /\ bv = .slice ba B.length bc /\ Kds w' ka kc (ks.map (kidN nu)) /\ Kys w' ba bc B /\ (∀ x, ka = some x -> Off sb b T' cb tv' w' x.block) /\ (∀ x, ba = some x -> Off sb b T' cb tv' w' x.block) /\ For (Tr nu sz (says P' A) h) B ks l Q /\ B.length <= 1
set_option maxRecDepth 100000 in
theorem y_written (c : Cg nu sz w0 hb sb b T0 A cb w T P tv m) (s : HpS nu (says P A)) {nv : Value} {n : Nd} {h : Nat} {l : List Pr} {Q : List Nat} (nd : NdO (Off sb b T cb tv w) w nv n) (x : Un nu (Tr nu sz (says P A) h) (h + 1) n l Q) (ok : n.Ok) (pk : Pok l) (ri : Rise l) (le : n.size <= 46) (pl : l.length < 1000000) (hm : m <= 90) (hP : P.length + 200 <= 6144) (room : cnt nu (ask nu (says P A)) + 2 < nu / 4) (low : ∀ u, ask nu (says P A) u <= 32) :
  Calls Tryz.prog 74 #[ptr cb, nv] w fun e w' => ∃ kv bv, e = .returned (.tuple #[kv, bv]) /\ Wtn nu sz w0 hb sb b T0 A cb w T P tv m (h + 1) l w' kv bv := by
 have hit : n.items.length <= 46 := by
  have : n.size = hsz n.items.length (kb n.keys) := rfl
  unfold hsz need at this
  omega
 have SZ := y_sizeN nd ok.kok (by omega) (by have := Nd.klen ok.form; omega) (fun hh B ks e => by have := ok.form; rw [e] at this; exact this.2.2.2)
 have hpr := x.pairs
 have hsz := c.hp.hp.geo.b.2.2.2.2.2
 have h16 : h + 1 <= 16 := by
  rcases x with ⟨e, _⟩ | ⟨_, B, ks, rfl, _⟩
  ·omega
  ·exact ok.h16
 by_cases h32 : n.size <= 32
 ·have WT : ∀ w1, St w w1 -> Calls Tryz.prog 76 #[ptr cb, nv] w1 _ := fun w1 f1 => y_write (c.still f1) s (nd.kept fun k hk => hk.still f1) ok h32 (by omega) (by omega) (by omega) (by omega) low
  have hle : ((n.size : Int) <= 32) = True := eq_true (by omega)
  have HWT := @Hd _ WT; have HX := Hd x; have HPR := Hd hpr; have HN := Hd (Un.ne x)
  clear WT nd x ok pk ri low room hP hpr s c
  generalize n.size = ns at *
  generalize hnp : n.pairs = np at *
  go_enter Tryz.func74, Tryz.ntmps74
  go_wp2_with fail
  refine SZ.mono ?_
  rintro e w1 ⟨rfl, f1⟩
  go_wp2_with fail
  refine (uh HWT w1 f1).mono ?_
  rintro e w2 ⟨u, g, rfl, st, wt⟩
  clear HWT SZ
  obtain ⟨pz, hpz⟩ : ∃ pz, fi nu + 8 * u = pz := ⟨_, rfl⟩
  rw [hpz]
  have HW := Hd (ai st (ai wt hpz))
  clear st wt hpz
  go_wp2_with fail
  go_ret2
  obtain ⟨st, wt, hpz⟩ := uh HW
  obtain ⟨W3, hW3⟩ : ∃ W3, w2.alloc (.cells #[.int .u64 (pz : Nat), .int .i64 (np : Nat)] 131) = W3 := ⟨_, rfl⟩
  rw [hW3]
  have f3 : St w2 W3 := hW3 ▸ (Fr.refl _ w2).alloc _
  have z3 : w2.heap.size < W3.heap.size := by rw [<- hW3]; simp
  obtain ⟨T', P', tv', wr, eg⟩ := wt.wr
  refine ⟨_, _, rfl, T', P', tv', 1, by omega, (wr.after f1).still f3, some ⟨w2.heap.size, 0, none⟩, 1, none, 0, [], [(u, l, u :: Q)], u :: Q, rfl, rfl, ?_, sl_nil _ _, fun y hy => ?_, (fun y hy => by cases hy), For.one ⟨n, Q, ?_, ?_, rfl⟩ (uh HN), by simp⟩
  ·have := sl_kid w2 W3 (pz, np) hW3
   rw [uh HPR, <- hpz] at this
   exact this
  ·cases hy
   exact wr.cg.fresh (Nat.le_refl _) z3
  ·rw [eg]; exact st
  ·exact wr.ch.un (uh HX)
 ·have HV : ∀ w1, St w w1 -> Calls Tryz.prog 126 #[nv] w1 _ := fun w1 f1 => y_halves (f := says P A) (sz := sz) (F := Off sb b T cb tv w) (nd.kept (G := Off sb b T cb tv w) fun k hk => ⟨(hk.still f1).1, hk⟩) x ok pk ri (by omega) le
  have hle : ((n.size : Int) <= 32) = False := eq_false (by omega)
  have HHV := @Hd _ HV
  have HC := Hd (ai c (ai s (ai pk (ai ri (ai room low)))))
  clear HV nd x ok hpr c s pk ri room low
  generalize n.size = ns at *
  go_enter Tryz.func74, Tryz.ntmps74
  go_wp2_with fail
  refine SZ.mono ?_
  rintro e w1 ⟨rfl, f1⟩
  go_wp2_with fail
  refine (uh HHV w1 f1).mono ?_
  rintro e w2 ⟨v1, v2, x, n1, n2, l1, l2, Q1, Q2, rfl, nd1, nd2, x1, x2, s1, s2, el, eQ, b1, b2, kx, hi2, f2⟩
  clear HHV SZ
  have f02 : St w w2 := f1.trans' f2 nE
  obtain ⟨c, s, pk, ri, room, low⟩ := uh HC
  have c2 := c.still f02
  have nd1' := nd1.kept fun k (hk : Off sb b T cb tv w k) => ⟨rfl, (hk.still f02).2⟩
  have nd2' := nd2.kept fun k (hk : Off sb b T cb tv w k) => ⟨rfl, (hk.still f02).2⟩
  have pk1 : Pok l1 := pk.sub (by rw [el]; exact List.sublist_append_left ..)
  have pk2 : Pok l2 := pk.sub (by rw [el]; exact List.sublist_append_right ..)
  have ri1 : Rise l1 := ri.sub (by rw [el]; exact List.sublist_append_left ..)
  have ri2 : Rise l2 := ri.sub (by rw [el]; exact List.sublist_append_right ..)
  have ll : l1.length + l2.length = l.length := by rw [el, List.length_append]
  have ok1 := x1.ok hsz pk1 ri1 (by omega) h16 (fun hh => (hi2 (by omega)).1)
  have WL := y_write c2 s nd1' ok1 s1 (by have := x1.pairs; omega) (by omega) (by omega) (by omega) low
  have HL := Hd (ai f02 (ai c2 (ai nd2' (ai x1 (ai x2 (ai pk2 (ai ri2 (ai ll (ai hi2 (ai b1 (ai b2 kx)))))))))))
  clear f02 c2 nd1' nd2' x1 x2 pk1 pk2 ri1 ri2 ll hi2 ok1 b1 b2 kx nd1 nd2 c s pk ri room low f1 f2
  have hp1 : n1.pairs = n1.pairs := rfl
  generalize hnp1 : n1.pairs = np1 at *
  go_wp2_with fail
  refine WL.mono ?_
  rintro e w3 ⟨u1, g1, rfl, st1, wt1⟩
  clear WL
  obtain ⟨p1, hpz1⟩ : ∃ pz, fi nu + 8 * u1 = pz := ⟨_, rfl⟩
  rw [hpz1]
  obtain ⟨T3, P3, tv3, wr3, eg3⟩ := wt1.wr
  obtain ⟨f02, c2, nd2', x1, x2, pk2, ri2, ll, hi2, b1, b2, kx⟩ := uh HL
  obtain ⟨c, s, pk, ri, room, low⟩ := uh HC
  have ok2 := (wr3.ch.un x2).ok hsz pk2 ri2 (by omega) h16 (fun hh => (hi2 (by omega)).2)
  have WR := y_write wr3.cg wr3.ch.st (nd2'.kept wr3.kp.2) ok2 s2 (by have := x2.pairs; omega) (by omega) (by have := wr3.len; omega) (by have := wr3.ch.few; omega) (wr3.ch.low low)
  generalize hnp2 : n2.pairs = np2 at *
  have HM := Hd (ai wr3 (ai eg3 (ai st1 (ai hpz1 ok2))))
  clear wr3 eg3 st1 hpz1 wt1 f02 c2 nd2' x1 x2 pk2 ri2 ll hi2 b1 b2 kx c s pk ri room low ok2
  go_wp2_with fail
  refine WR.mono ?_
  rintro e w4 ⟨u2, g2, rfl, st2, wt2⟩
  clear WR
  obtain ⟨p2, hpz2⟩ : ∃ pz, fi nu + 8 * u2 = pz := ⟨_, rfl⟩
  rw [hpz2]
  have HM2 := Hd (ai st2 (ai wt2 hpz2))
  clear st2 wt2 hpz2
  go_wp2_with fail
  go_ret2
  obtain ⟨st2, wt2, hpz2⟩ := uh HM2
  obtain ⟨wr3, eg3, st1, hpz1, ok2⟩ := uh HM
  obtain ⟨f02, c2, nd2', x1, x2, pk2, ri2, ll, hi2, b1, b2, kx⟩ := uh HL
  obtain ⟨T4, P4, tv4, wr4, eg4⟩ := wt2.wr
  obtain ⟨W5, hW5⟩ : ∃ W5, w4.alloc (.cells #[.int .u64 (p1 : Nat), .int .i64 (np1 : Nat), .int .u64 (p2 : Nat), .int .i64 (np2 : Nat)] 131) = W5 := ⟨_, rfl⟩
  obtain ⟨W6, hW6⟩ : ∃ W6, W5.alloc (.cells #[.string x] 9) = W6 := ⟨_, rfl⟩
  rw [hW5, hW6]
  have f5 : St w4 W5 := hW5 ▸ (Fr.refl _ w4).alloc _
  have f6 : St W5 W6 := hW6 ▸ (Fr.refl _ W5).alloc _
  have z5 : W5.heap.size = w4.heap.size + 1 := by rw [<- hW5]; simp
  have z6 : W6.heap.size = w4.heap.size + 2 := by rw [<- hW6]; simp [z5]
  have wr := (wr3.after f02).trans wr4
  have t1 : Tr nu sz (says P4 A) (h + 1) u1 l1 (u1 :: Q1) := wr4.ch.tr ⟨n1, Q1, by rw [eg3]; exact st1, wr3.ch.un x1, rfl⟩
  have t2 : Tr nu sz (says P4 A) (h + 1) u2 l2 (u2 :: Q2) := ⟨n2, Q2, by rw [eg4]; exact st2, wr4.ch.un (wr3.ch.un x2), rfl⟩
  refine ⟨_, _, rfl, T4, P4, tv4, 2, by omega, (wr.still f5).still f6, some ⟨w4.heap.size, 0, none⟩, 2, some ⟨w4.heap.size + 1, 0, none⟩, 1, [x], [(u1, l1, u1 :: Q1), (u2, l2, u2 :: Q2)], _, rfl, rfl, ?_, ?_, fun y hy => ?_, fun y hy => ?_, by rw [el]; exact For.two t1 t2 x1.ne x2.ne b1 b2 kx, by simp⟩
  ·have := (sl_kid2 w4 W5 (p1, np1) (p2, np2) hW5).still f6
   rw [<- hpz1, <- hpz2, <- hnp1, <- hnp2, x1.pairs, x2.pairs] at this
   exact this
  ·have := sl_str1 W5 W6 x hW6
   rw [z5] at this
   exact this
  ·cases hy
   exact wr.cg.fresh (Nat.le_refl _) (by show w4.heap.size < _; omega)
  ·cases hy
   exact wr.cg.fresh (by show w4.heap.size <= w4.heap.size + 1; omega) (by show w4.heap.size + 1 < _; omega)
end
end
end Go.Proofs.YtbpndmghlnadiaaGreatDoor
