/- Joined: Ue Uf Zg Ug. -/
import Derived.Test.YtbpndmghlnadiaaGreatDoorR21
import Derived.Test.YtbpndmghlnadiaaGreatDoorR24
namespace Go.Proofs.YtbpndmghlnadiaaGreatDoor
open Go.RowKit
set_option maxHeartbeats 4000000

section
def Rt (nu sz : Nat) (f : Nat -> Int) (r : Nat) (l : List Pr) (Q : List Nat) : Prop := (r = 0 /\ l = [] /\ Q = []) \/ ∃ h u, r = fi nu + 8 * u /\ Tr nu sz f h u l Q
section
variable {nu sz : Nat} {w w' w0 : World} {hb sb b cb m : Nat} {T T0 : Tay} {A : Ab} {P : List (Int × Int)} {tv : Value}
theorem Tr.node {f : Nat -> Int} {h u : Nat} {l : List Pr} {Q : List Nat} (t : Tr nu sz f h u l Q) : ∃ h', h = h' + 1 /\ ∃ n Q', Std nu sz f u n /\ Un nu (Tr nu sz f h') (h' + 1) n l Q' /\ n.high = h' + 1 := by
 cases h with
 | zero => exact t.elim
 | succ h =>
  obtain ⟨n, Q', s, x, e⟩ := t
  refine ⟨h, rfl, n, Q', s, x, ?_⟩
  rcases x with ⟨e, rfl, _⟩ | ⟨_, B, ks, rfl, _⟩
  ·exact e.symm
  ·rfl
set_option maxRecDepth 100000 in
theorem y_top (h : Hp nu sz w hb sb b T A P) (u : Nat) (n : Nd) (s : Std nu sz (says P A) u n) :
  Calls Tryz.prog 34 #[ptr sb, .int .u64 (fi nu + 8 * u : Nat)] w fun e w' => ∃ v, e = .returned v /\ NdO (fun k => w.heap.size <= k /\ k < w'.heap.size) w' v n /\ St w w' := by
 have g := h.hp.geo.b
 have f0 := fi_eight nu
 have hsd : n.size = hsz n.items.length (kb n.keys) := rfl
 have hr : n.items.length <= 32 /\ kb n.keys <= 300 := by have := s.le; rw [hsd] at this; unfold hsz need at this; omega
 have HA := y_headAt h (fi nu + 8 * u) n.high n.items.length (kb n.keys) (by omega) (by omega) (by rw [<- hsd]; exact s.fit) s.ok.h1 s.ok.h16 (by omega) (by omega) (by rw [<- hsd]; exact s.le) (s.wd 0 _ rfl)
 have NA : ∀ w1, St w w1 -> Calls Tryz.prog 79 #[ptr sb, .int .u64 (fi nu + 8 * u : Nat), .int .i64 n.high] w1 fun e w' => ∃ v, e = .returned v /\ NdO (fun k => w1.heap.size <= k /\ k < w'.heap.size) w' v n /\ St w1 w' := fun w1 f1 => y_nodeAt (h.still f1) u n s
 have t9 := fun w => fld_head n.high n.items.length (kb n.keys) w
 have hp0 : (((fi nu + 8 * u : Nat) : Int) == 0) = false := by simp; omega
 have HN := @Hd _ NA
 unfold hdV at HA
 clear NA h s g f0 hsd hr
 generalize fi nu + 8 * u = p at *
 generalize n.high = ht at *
 generalize n.items.length = it at *
 generalize kb n.keys = bt at *
 go_enter Tryz.func34, Tryz.ntmps34
 go_wp2_with fail
 refine HA.mono ?_
 rintro e w1 ⟨rfl, f1⟩
 clear HA
 go_wp2_with fail
 refine (uh HN w1 f1).mono ?_
 rintro e w2 ⟨v, rfl, nd, f2⟩
 have HD := Hd nd
 clear nd HN t9
 go_wp2_with fail
 go_ret
 exact ⟨v, rfl, (uh HD).mono fun k hk => ⟨Nat.le_trans f1.size hk.1, hk.2⟩, f1.trans' f2 nE⟩
theorem y_top0 (sv : Value) (w : World) : Calls Tryz.prog 34 #[sv, .int .u64 0] w fun e w' => ∃ v, e = .returned v /\ NdO (fun k => w.heap.size <= k /\ k < w'.heap.size) w' v (.lf []) /\ St w w' := by
 go_enter Tryz.func34, Tryz.ntmps34
 go_wp2_with fail
 go_ret
 refine ⟨_, rfl, ⟨some ⟨w.heap.size, 0, none⟩, 0, rfl, ⟨rfl, Nat.le_refl _, (fun e => by cases e), (fun u hu => by cases hu), (fun j u hu => by simp [pcl] at hu), (fun x e => by cases e; rfl)⟩, fun x hx => ?_⟩, (Fr.refl _ w).alloc _⟩
 cases hx
 exact ⟨Nat.le_refl _, by simp⟩
theorem y_topR (h : Hp nu sz w hb sb b T A P) {r : Nat} {l : List Pr} {Q : List Nat} (rt : Rt nu sz (says P A) r l Q) :
  Calls Tryz.prog 34 #[ptr sb, .int .u64 (r : Nat)] w fun e w' => ∃ v n, e = .returned v /\ NdO (fun k => w.heap.size <= k /\ k < w'.heap.size) w' v n /\ St w w' /\ ((l = [] /\ n = .lf [] /\ Q = []) \/ ∃ h' u Q', Std nu sz (says P A) u n /\ Un nu (Tr nu sz (says P A) h') (h' + 1) n l Q' /\ r = fi nu + 8 * u /\ 2 ^ h' <= l.length) := by
 rcases rt with ⟨rfl, rfl, rfl⟩ | ⟨h', u, rfl, t⟩
 ·refine (y_top0 (ptr sb) w).mono ?_
  rintro e w' ⟨v, rfl, nd, f⟩
  exact ⟨v, _, rfl, nd, f, .inl ⟨rfl, rfl, rfl⟩⟩
 ·obtain ⟨h', rfl, n, Q', st, un, _⟩ := t.node
  have := t.pow
  refine (y_top h u n st).mono ?_
  rintro e w' ⟨v, rfl, nd, f⟩
  exact ⟨v, n, rfl, nd, f, .inr ⟨h', u, Q', st, un, rfl, this⟩⟩
def PutC (nu sz : Nat) (w0 : World) (hb sb b : Nat) (T0 : Tay) (A : Ab) (cb : Nat) (w : World) (T : Tay) (P : List (Int × Int)) (tv : Value) (m : Nat) (l : List Pr) (w' : World) (e : Ending) : Prop :=
 ∃ T' P' tv' k, (k <= 20 /\ (l.length <= 62 -> k <= 13)) /\ Wr nu sz w0 hb sb b T0 A cb w T P tv m w' T' P' tv' k /\ ∃ (r : Nat) (Q : List Nat), e = .returned (.int .u64 (r : Nat)) /\ r ≠ 0 /\ Rt nu sz (says P' A) r l Q
theorem pow_le6 {h n : Nat} (h1 : 2 ^ h <= n) (h2 : n <= 63) : h <= 5 := by
 refine Nat.le_of_not_lt fun hh => ?_
 have : 2 ^ 6 <= 2 ^ h := Nat.pow_le_pow_right (by omega) hh
 omega
theorem putP_ge (x : ByteArray) (v : Nat) : ∀ l : List Pr, l.length <= (putP l x v).length
 | [] => Nat.zero_le _
 | p :: l => by
  unfold putP
  split
  ·have := putP_ge x v l
   simp; omega
  ·split <;> simp
theorem pow_le {h n : Nat} (h1 : 2 ^ h <= n) (h2 : n <= 200) : h <= 7 := by
 refine Nat.le_of_not_lt fun hh => ?_
 have : 2 ^ 8 <= 2 ^ h := Nat.pow_le_pow_right (by omega) hh
 omega
set_option maxRecDepth 100000 in
theorem y_putC (c : Cg nu sz w0 hb sb b T0 A cb w T P tv 0) (s : HpS nu (says P A)) {r : Nat} {l : List Pr} {Q : List Nat} (rt : Rt nu sz (says P A) r l Q) (pk : Pok l) (ri : Rise l) (hl : l.length <= 200) (x : ByteArray) (v : Nat) (hx : 1 <= x.size /\ x.size <= 80) (hv : v < 18446744073709551616) (hP : P.length + 3000 <= 6144) (room : cnt nu (ask nu (says P A)) + 30 < nu / 4) (low : ∀ u, ask nu (says P A) u <= 32)
  (bC bS bR bK bV : Nat) (oC : Off sb b T cb tv w bC) (oS : Off sb b T cb tv w bS) (oR : Off sb b T cb tv w bR) (oK : Off sb b T cb tv w bK) (oV : Off sb b T cb tv w bV) (dC : w.cell? ⟨bC, 0, none⟩ = some (ptr cb)) (dS : w.cell? ⟨bS, 0, none⟩ = some (ptr sb)) (dR : w.cell? ⟨bR, 0, none⟩ = some (.int .u64 (r : Nat))) (dK : w.cell? ⟨bK, 0, none⟩ = some (.string x)) (dV : w.cell? ⟨bV, 0, none⟩ = some (.int .u64 (v : Nat))) :
  Calls Tryz.prog 31 #[ptr bC, ptr bS, ptr bR, ptr bK, ptr bV] w fun e w' => PutC nu sz w0 hb sb b T0 A cb w T P tv 0 (putP l x v) w' e := by
 have TP : ∀ w1, St w w1 -> Calls Tryz.prog 34 #[ptr sb, .int .u64 (r : Nat)] w1 _ := fun w1 f1 => y_topR (c.still f1).hp rt
 have hsz4 := c.hp.hp.geo.b.2.2.2.2.2
 -- put, and then root
 have PR : ∀ w1 w2 nv n, St w w1 -> St w1 w2 -> NdO (fun k => w1.heap.size <= k /\ k < w2.heap.size) w2 nv n -> ((l = [] /\ n = .lf [] /\ Q = []) \/ ∃ h' u Q', Std nu sz (says P A) u n /\ Un nu (Tr nu sz (says P A) h') (h' + 1) n l Q' /\ r = fi nu + 8 * u /\ 2 ^ h' <= l.length) ->
   Calls Tryz.prog 33 #[ptr cb, nv, .string x, .int .u64 v] w2 fun e w3 => ∃ nv3, e = .returned nv3 /\ Keeps sb b T cb tv w T tv w /\ (∀ y u, w.cell? ⟨y, 0, none⟩ = some u -> Off sb b T cb tv w y -> w3.cell? ⟨y, 0, none⟩ = some u) /\ Calls Tryz.prog 32 #[ptr cb, nv3] w3 fun e w4 => (∀ y u, w.cell? ⟨y, 0, none⟩ = some u -> Off sb b T cb tv w y -> w4.cell? ⟨y, 0, none⟩ = some u) /\ PutC nu sz w0 hb sb b T0 A cb w T P tv 0 (putP l x v) w4 e := fun w1 w2 nv n f1 f2 nd hcs => by
  have f02 : St w w2 := f1.trans' f2 nE
  have c2 := (c.still f1).still f2
  have nd2 : NdO (Off sb b T cb tv w2) w2 nv n := nd.mono fun k hk => (c.still f1).fresh hk.1 hk.2
  have pk4 : Pok (putP l x v) := pk.put hx hv
  have ri4 : Rise (putP l x v) := putP_rise ri
  have hl4 := putP_len x v l
  have hl5 := putP_ge x v l
  have key : ∃ h', (h' <= 7 /\ (l.length <= 62 -> h' <= 5)) /\ Calls Tryz.prog 33 #[ptr cb, nv, .string x, .int .u64 v] w2 fun e w3 => Ptd nu sz w0 hb sb b T0 A cb w2 T P tv 0 h' (putP l x v) w3 e := by
   rcases hcs with ⟨rfl, rfl, rfl⟩ | ⟨h', u, Q', st, un, _, hp⟩
   ·obtain ⟨a, cc, rfl, hL, hF⟩ := nd
    refine ⟨0, by omega, (y_put_leaf (ptr cb) a cc [] x v w2 hL ri (by simp)).mono ?_⟩
    rintro e w' ⟨nv, rfl, nd, f⟩
    exact ⟨T, P, tv, 0, by omega, Wr.base w' c2 s f, nv, _, [], rfl, nd.mono fun k hk => c2.fresh hk.1 hk.2, .inl ⟨rfl, rfl, putP_ne _ x v, rfl⟩, by have := putP_size [] x v hx.2; rw [lf_size [] ] at this; simp [hsz, need, kb] at this; omega, fun hh => by omega⟩
   ·have h7 := pow_le hp hl
    exact ⟨h', ⟨h7, fun h => pow_le6 hp (by omega)⟩, y_put x v hx hv h' c2 s nd2 un st.ok st.le pk ri (by omega) (by omega) (by omega) (by omega) low⟩
  obtain ⟨h', h7, K⟩ := key
  refine K.mono ?_
  rintro e w3 ⟨T3, P3, tv3, k3, hk3, wr3, nv3, n3, Q3, rfl, nd3, un3, le3, it3⟩
  have wr := wr3.after f02
  have cells : ∀ y u, w.cell? ⟨y, 0, none⟩ = some u -> Off sb b T cb tv w y -> w3.cell? ⟨y, 0, none⟩ = some u := fun y u hc ho => (World.cell?_of_block (a := ⟨y, 0, none⟩) (wr.kp.2 y ho).1).trans hc
  refine ⟨nv3, rfl, ⟨Nat.le_refl _, fun _ hk => ⟨rfl, hk⟩⟩, cells, ?_⟩
  have ok3 := un3.ok hsz4 pk4 ri4 (by omega) (by omega) it3
  have few := wr.ch.few
  have ln := wr.len
  have R : Calls Tryz.prog 32 #[ptr cb, nv3] w3 fun e w' => Rtd nu sz w0 hb sb b T0 A cb w3 T3 P3 tv3 (0 + k3) (putP l x v) w' e := by
   rcases un3 with ⟨e0, rfl, hne, rfl⟩ | ⟨h2, B, ks, rfl, fo⟩
   ·obtain ⟨a, cc, rfl, hL, hF⟩ := nd3
    have e0' : h' = 0 := by omega
    exact y_rootL wr3.cg wr3.ch.st a cc hL ⟨a, cc, rfl, hL, hF⟩ (.inl ⟨e0, rfl, hne, rfl⟩) ok3 pk4 ri4 le3 (by omega) (by omega) (by omega) (by omega) (by omega) (wr3.ch.low low) e0'
   ·obtain ⟨ba, bc, ka, kc, rfl, hB, hK, oB, oK⟩ := nd3
    exact y_rootB wr3.cg wr3.ch.st ba bc B ka kc ks hK ⟨ba, bc, ka, kc, rfl, hB, hK, oB, oK⟩ (.inr ⟨h2, B, ks, rfl, fo⟩) ok3 pk4 ri4 le3 (by omega) (by omega) (by omega) (by omega) (by omega) (wr3.ch.low low)
  refine R.mono ?_
  rintro e w4 ⟨T4, P4, tv4, k4, hk4, wr4, u, h4, Q4, rfl, tr⟩
  have wrt := wr.trans wr4
  refine ⟨fun y u hc ho => (World.cell?_of_block (a := ⟨y, 0, none⟩) (wrt.kp.2 y ho).1).trans hc, T4, P4, tv4, k3 + k4, by omega, wrt, _, Q4, rfl, ?_, .inr ⟨h4, u, rfl, tr⟩⟩
  have := c.hp.hp.geo.b
  omega
 have HTP := @Hd _ TP; have HPR := @Hd _ PR
 have HO := Hd (ai oC (ai oS (ai oR (ai oK oV))))
 clear TP PR c s rt pk ri hl hx hv hP room low oC oS oR oK oV hsz4
 go_enter Tryz.func31, Tryz.ntmps31
 go_wp2_with fail
 have fD : St w w.drew := (Fr.refl _ w).drewN 1
 refine wp_region_held_drew (S := fun w' => w'.cell? ⟨bC, 0, none⟩ = some (ptr cb) /\ w'.cell? ⟨bS, 0, none⟩ = some (ptr sb) /\ w'.cell? ⟨bR, 0, none⟩ = some (.int .u64 (r : Nat)) /\ w'.cell? ⟨bK, 0, none⟩ = some (.string x) /\ w'.cell? ⟨bV, 0, none⟩ = some (.int .u64 (v : Nat))) (by kernel_rfl) ⟨dC, dS, dR, dK, dV⟩ (fun hHeld => ?_)
 refine tkO 0 (ptr cb) hHeld rfl ?_ ?_
 ·rintro w ⟨x0, x1, x2, x3, x4⟩;go_simp;try with_reducible rfl
 simp only [apt, List.set]
 refine tkO 1 (ptr cb) hHeld rfl ?_ ?_
 ·rintro w ⟨x0, x1, x2, x3, x4⟩;go_simp;try with_reducible rfl
 simp only [apt, List.set]
 refine tkO 2 (ptr sb) hHeld rfl ?_ ?_
 ·rintro w ⟨x0, x1, x2, x3, x4⟩;go_simp;try with_reducible rfl
 simp only [apt, List.set]
 refine tkO 3 (.int .u64 (r : Nat)) hHeld rfl ?_ ?_
 ·rintro w ⟨x0, x1, x2, x3, x4⟩;go_simp;try with_reducible rfl
 simp only [apt, List.set]
 refine tkO 5 (.string x) hHeld rfl ?_ ?_
 ·rintro w ⟨x0, x1, x2, x3, x4⟩;go_simp;try with_reducible rfl
 simp only [apt, List.set]
 refine tkO 6 (.int .u64 (v : Nat)) hHeld rfl ?_ ?_
 ·rintro w ⟨x0, x1, x2, x3, x4⟩;go_simp;try with_reducible rfl
 simp only [apt, List.set]
 refine rdO 4 rfl (fun K hK => ?_)
 go_simp
 go_wp2_with fail
 refine (uh HTP _ fD).mono ?_
 rintro e w2 ⟨nv, n, rfl, nd, f2, hcs⟩
 have f02 : St w w2 := fD.trans' f2 nE
 refine hK.out _ _ ⟨f02.cell' dC id, f02.cell' dS id, f02.cell' dR id, f02.cell' dK id, f02.cell' dV id⟩ (fun _ => ?_)
 clear hK K hHeld
 have PU := uh HPR _ w2 nv n fD f2 nd hcs
 clear HPR HTP nd hcs f2 fD f02
 refine rdO 7 rfl (fun K hK => ?_)
 go_simp
 go_wp2_with fail
 refine PU.mono ?_
 rintro e w3 ⟨nv3, rfl, -, q3, RO⟩
 clear PU
 obtain ⟨oC, oS, oR, oK, oV⟩ := uh HO
 refine hK.out _ _ ⟨q3 _ _ dC oC, q3 _ _ dS oS, q3 _ _ dR oR, q3 _ _ dK oK, q3 _ _ dV oV⟩ (fun _ => ?_)
 clear hK K
 refine rdO 8 rfl (fun K hK => ?_)
 go_simp
 go_wp2_with fail
 refine RO.mono ?_
 rintro e w4 ⟨q4, T4, P4, tv4, k4, hk4, wr4, r4, Q4, rfl, hr4, rt4⟩
 have hS4 := ai (q4 _ _ dC oC) (ai (q4 _ _ dS oS) (ai (q4 _ _ dR oR) (ai (q4 _ _ dK oK) (q4 _ _ dV oV))))
 refine hK.out _ _ hS4 (fun _ => ?_)
 clear hK K
 refine rdO 9 rfl (fun K hK => ?_)
 go_simp
 refine hK.out _ _ hS4 (fun _ => ?_)
 clear hK K
 refine wpAnyH_done (by kernel_rfl) ?_ _
 have HE := Hd (ai hk4 (ai wr4 (ai hr4 rt4)))
 clear hk4 wr4 hr4 rt4 hS4 q4 q3 RO HO oC oS oR oK oV dC dS dR dK dV
 go_wp2_with fail
 go_ret
 obtain ⟨hk4, wr4, hr4, rt4⟩ := uh HE
 exact ⟨T4, P4, tv4, k4, hk4, wr4, r4, Q4, rfl, hr4, rt4⟩
end
end

section
theorem results_cell1 {fn : Func} {p : Tmp} {ty : TypeId} (h : fn.results = #[.cell p ty]) (tmps : Array Value) (w : World) (g : Nat) (v : Value) (hp : tmps.getD p undef = .pointer (some ⟨g, 0, none⟩)) (hl : (loadVar ty ⟨g, 0, none⟩).run Tryz.prog w = .ok v w) : (results fn tmps).run Tryz.prog w = .ok v w := by
 have hp' : tmps[p]?.getD undef = .pointer (some ⟨g, 0, none⟩) := by simpa using hp
 simp [results, h, hp', asAddr, hl]
theorem load_u64 (w : World) (g : Nat) (v : Value) (hc : w.cell? ⟨g, 0, none⟩ = some v) : (loadVar 27 ⟨g, 0, none⟩).run Tryz.prog w = .ok v w := by
 simp [loadVar, Tryz.isAgg27, go_sem, hc]
section
variable {nu sz : Nat} {w w' w0 w1 w2 : World} {hb sb b cb m k : Nat} {T T0 T1 : Tay} {A : Ab} {P P1 : List (Int × Int)} {tv tv1 : Value}
theorem Wr.fr (c : Cg nu sz w0 hb sb b T0 A cb w T P tv m) (a : Wr nu sz w0 hb sb b T0 A cb w T P tv m w1 T1 P1 tv1 k) : Fr (fun k => tfoot sb b T k \/ k = cb \/ tv.ownBlock = some k) w w1 :=
 ⟨a.cg.on.fr.os.trans c.on.fr.os.symm, a.cg.on.fr.tape.trans c.on.fr.tape.symm, a.cg.on.fr.output.trans c.on.fr.output.symm, a.kp.1, fun k hk hn => (a.kp.2 k ⟨hk, fun x => hn (.inl x), fun x => hn (.inr (.inl x)), fun x => hn (.inr (.inr x))⟩).1⟩
def PutE (nu sz : Nat) (w0 : World) (sb b : Nat) (T0 : Tay) (A : Ab) (P : List (Int × Int)) (l : List Pr) (w' : World) (r : Nat) : Prop :=
 ∃ T' P' Q k, (k <= 20 /\ (l.length <= 62 -> k <= 13)) /\ Onx w0 sb b T0 w' T' sz A P' false /\ P'.length <= P.length + 1600 /\ Chg nu (says P A) k (says P' A) /\ r ≠ 0 /\ Rt nu sz (says P' A) r l Q
set_option maxRecDepth 100000 in
theorem y_madeC (_c : Cg nu sz w0 hb sb b T0 A cb w T P tv 0) {l : List Pr} (b3 b4 : Nat) (fc : Array Value) (PC : Calls Tryz.prog 31 fc w fun e w' => PutC nu sz w0 hb sb b T0 A cb w T P tv 0 l w' e) (d3 : w.cell? ⟨b3, 0, none⟩ = some (.func (.func 31) #[] fc)) (o4 : w.heap[b4]? = some (.cells #[.int .u64 0] 27 (0, 0))) (of4 : Off sb b T cb tv w b4) :
  Calls Tryz.prog 71 #[ptr b3, ptr b4] w fun e w' => e = .returned (.tuple #[]) /\ ∃ w1 r, PutC nu sz w0 hb sb b T0 A cb w T P tv 0 l w1 (.returned (.int .u64 (r : Nat))) /\ w' = w1.setCell ⟨b4, 0, none⟩ (.int .u64 (r : Nat)) /\ w1.heap[b4]? = some (.cells #[.int .u64 0] 27 (0, 0)) := by
 have HP := Hd PC
 have HO := Hd (ai o4 of4)
 clear PC o4 of4
 go_enter Tryz.func71, Tryz.ntmps71
 go_wp2_with fail
 refine (uh HP).mono ?_
 rintro e w1 ⟨T1, P1, tv1, k1, hk1, wr1, r, Q1, rfl, hr, rt⟩
 obtain ⟨o4, of4⟩ := uh HO
 have o41 := (wr1.kp.2 _ of4).1.trans o4
 have d4 : w1.cell? ⟨b4, 0, none⟩ = some (.int .u64 0) := cOo o41 0
 have z4 : w1.frozen? ⟨b4, 0, none⟩ = false := by simp [World.frozen?, o41]
 have HE := Hd (ai hk1 (ai wr1 (ai hr (ai rt o41))))
 clear hk1 wr1 hr rt o41 o4 of4 HP HO d3
 go_wp2_with fail
 go_end0
 obtain ⟨hk1, wr1, hr, rt, o41⟩ := uh HE
 exact ⟨rfl, w1, r, ⟨T1, P1, tv1, k1, hk1, wr1, r, Q1, rfl, hr, rt⟩, rfl, o41⟩
set_option maxRecDepth 100000 in
theorem y_made (c : Cg nu sz w0 hb sb b T0 A cb w T P (.slice none 0 0) 0) {l : List Pr} (fc : Array Value) (PC : ∀ w1, St w w1 -> Calls Tryz.prog 31 fc w1 fun e w' => PutC nu sz w0 hb sb b T0 A cb w1 T P (.slice none 0 0) 0 l w' e) :
  Calls Tryz.prog 30 #[ptr cb, .func (.func 31) #[] fc] w fun e w' => ∃ r, e = .returned (.int .u64 (r : Nat)) /\ PutE nu sz w0 sb b T0 A P l w' r := by
 have h0 := c.on.fr.size
 obtain ⟨W1, hW1⟩ : ∃ W1, w.alloc (.cells #[ptr cb] 70) = W1 := ⟨_, rfl⟩
 obtain ⟨W2, hW2⟩ : ∃ W2, W1.alloc (.cells #[.func (.func 31) #[] fc] 79) = W2 := ⟨_, rfl⟩
 obtain ⟨W3, hW3⟩ : ∃ W3, W2.alloc (.cells #[.int .u64 0] 27) = W3 := ⟨_, rfl⟩
 obtain ⟨g, hg⟩ : ∃ g, w.heap.size = g := ⟨_, rfl⟩
 have z1 : W1.heap.size = g + 1 := by rw [<- hW1]; simp [hg]
 have z2 : W2.heap.size = g + 2 := by rw [<- hW2]; simp; omega
 have z3 : W3.heap.size = g + 3 := by rw [<- hW3]; simp; omega
 have f1 : St w W1 := hW1 ▸ (Fr.refl _ w).alloc _
 have f2 : St W1 W2 := hW2 ▸ (Fr.refl _ W1).alloc _
 have f3 : St W2 W3 := hW3 ▸ (Fr.refl _ W2).alloc _
 have f03 : St w W3 := (f1.trans' f2 nE).trans' f3 nE
 have oF : W3.heap[g + 1]? = some (.cells #[.func (.func 31) #[] fc] 79 (0, 0)) := by
  have := heap_alloc_new W1 (.cells #[.func (.func 31) #[] fc] 79)
  rw [hW2, z1] at this; exact f3.obj this id
 have oR : W3.heap[g + 2]? = some (.cells #[.int .u64 0] 27 (0, 0)) := by
  have := heap_alloc_new W2 (.cells #[.int .u64 0] 27)
  rw [hW3, z2] at this; exact this
 have fb : St W3 (W3.alloc box) := (Fr.refl _ W3).alloc _
 have f0b : St w (W3.alloc box) := f03.trans' fb nE
 have zb : (W3.alloc box).heap.size = g + 4 := by simp; omega
 have cb4 := c.still f0b
 have of2 : Off sb b T cb (.slice none 0 0) (W3.alloc box) (g + 2) := c.fresh (by omega) (by omega)
 have of3 : Off sb b T cb (.slice none 0 0) (W3.alloc box) (g + 3) := c.fresh (by omega) (by omega)
 have CL := y_madeC cb4 (g + 1) (g + 2) fc (PC _ f0b) (cOo (fb.obj oF id) 0) (fb.obj oR id) of2
 have ft : ∀ k, tfoot sb b T k -> k < g := fun k hk => by rw [<- hg]; exact c.hp.st.lt k hk
 have ltc : cb < g := by rw [<- hg]; exact c.lt
 have TR : Calls Tryz.prog 64 #[.func (.func 71) #[] #[ptr (g + 1), ptr (g + 2)]] W3 fun e w' => ∃ h : How, e = .returned (.tuple #[h.v, .bool h.is]) /\ (h = .well /\ ∃ r : Nat, PutE nu sz w0 sb b T0 A P l w' r /\ w'.heap[g + 2]? = some (.cells #[.int .u64 (r : Nat)] 27 (0, 0))) :=
  try_fr (F := fun k => tfoot sb b T k \/ k = cb \/ k = g + 2) (fun k hk => by rcases hk with hk | hk | hk; (· have := ft k hk; omega); (· omega); (· omega)) (acts_of (fun _ _ => by kernel_rfl) (CL.mono (by
   rintro e w' ⟨rfl, w1, r, ⟨T1, P1, tv1, k1, hk1, wr1, r', Q1, er, hr, rt⟩, rfl, o4⟩
   have er' : (r : Int) = r' := by injection er with e1; injection e1
   have er2 : r = r' := by omega
   subst er2
   have fr1 := wr1.fr cb4
   have fs : Fr (fun k => k = g + 2) w1 (w1.setCell ⟨g + 2, 0, none⟩ (.int .u64 (r : Nat))) := (Fr.refl (fun k => k = g + 2) w1).setCell (.inl rfl) _
   have fr2 : Fr (fun k => tfoot sb b T k \/ k = cb \/ k = g + 2) (W3.alloc box) (w1.setCell ⟨g + 2, 0, none⟩ (.int .u64 (r : Nat))) := (fr1.mono (fun k hk => .inl (by rcases hk with hk | hk | hk; (· exact .inl hk); (· exact .inr (.inl hk)); (· cases hk)))).trans' fs (fun k hk => .inl (.inr (.inr hk)))
   refine ⟨.well, rfl, fr2, fun w2 ff2 => ⟨rfl, r, ⟨T1, P1, Q1, k1, hk1, ?_, by have := wr1.len; omega, wr1.ch, hr, rt⟩, ?_⟩⟩
   ·have k2 := (wr1.kp.2 _ of2).2
    have k3 := (wr1.kp.2 _ of3).2
    have on1 := wr1.cg.on.turn fs (fun k hk => by rw [hk]; exact k2.2.1) (fun k hk => by rw [hk]; omega)
    exact on1.turn ff2 (fun k hk => by rw [hk, z3]; exact k3.2.1) (fun k hk => by rw [hk]; omega)
   ·exact ff2.obj (heap_setCell_same w1 (g + 2) 0 _ _ _ o4) (fun e => by have e : g + 2 = W3.heap.size := e; omega))))
 have ER := g_errno TR (fun h w' x => .inl x.1)
 have HER := Hd ER; have HW := Hd (ai hW1 (ai hW2 hW3))
 clear c PC CL TR ER f1 f2 f3 f03 oF oR fb f0b zb cb4 of2 of3 ft ltc hW1 hW2 hW3 z1 z2 z3 h0
 go_enter Tryz.func30, Tryz.ntmps30
 go_wp2_with fail
 rw [(uh HW).1, (uh HW).2.1, (uh HW).2.2, show g + 1 + 1 = g + 2 from rfl]
 refine (uh HER).mono ?_
 clear HER HW
 rintro e w4 (⟨rfl, -, r, pe, o4⟩ | ⟨i, -, e, _⟩)
 ·have d4 : w4.cell? ⟨g + 2, 0, none⟩ = some (.int .u64 (r : Nat)) := cOo o4 0
  have z4 : w4.frozen? ⟨g + 2, 0, none⟩ = false := by simp [World.frozen?, o4]
  have HE := Hd (ai pe o4)
  clear pe o4
  go_wp2_with fail
  obtain ⟨pe, o4⟩ := uh HE
  obtain ⟨w5, hw5⟩ : ∃ w5, w4.setCell ⟨g + 2, 0, none⟩ (.int .u64 (r : Nat)) = w5 := ⟨_, rfl⟩
  have o5 : w5.heap[g + 2]? = some (.cells #[.int .u64 (r : Nat)] 27 (0, 0)) := hw5 ▸ heap_setCell_same w4 (g + 2) 0 _ _ _ o4
  have e5 : ∀ k, w5.heap[k]? = w4.heap[k]? := fun k => by
   by_cases hk : k = g + 2
   ·rw [hk, o5, o4]
   ·rw [<- hw5]; exact Below.heap_setCell _ _ _ _ (fun e => hk e)
  rw [hw5]
  refine bodyPost_ret (results_cell1 Tryz.results30 _ _ (g + 2) (.int .u64 (r : Nat)) (by rfl) (load_u64 w5 (g + 2) _ (cOo o5 0))) rfl ?_
  refine ⟨r, rfl, ?_⟩
  have f5 : St w4 w5 := ⟨by rw [<- hw5]; rfl, by rw [<- hw5]; rfl, by rw [<- hw5]; rfl, by rw [<- hw5]; exact Nat.le_of_eq (by simp), fun k _ _ => e5 k⟩
  obtain ⟨T', P', Q, kk, h1, h2, h3⟩ := pe
  exact ⟨T', P', Q, kk, h1, h2.quiet f5, h3⟩
 ·exact absurd e (by intro h; cases h)
set_option maxRecDepth 100000 in
theorem y_Put (h : Hp nu sz w hb sb b T A P) (s : HpS nu (says P A)) {r : Nat} {l : List Pr} {Q : List Nat} (rt : Rt nu sz (says P A) r l Q) (pk : Pok l) (ri : Rise l) (hl : l.length <= 200) (x : ByteArray) (v : Nat) (hx : 1 <= x.size /\ x.size <= 80) (hv : v < 18446744073709551616) (hP : P.length + 3000 <= 6144) (room : cnt nu (ask nu (says P A)) + 30 < nu / 4) (low : ∀ u, ask nu (says P A) u <= 32) :
  Calls Tryz.prog 8 #[ptr sb, ptr hb, .int .u64 (r : Nat), .string x, .int .u64 (v : Nat)] w fun e w' => ∃ r' : Nat, e = .returned (.int .u64 (r' : Nat)) /\ PutE nu sz w sb b T A P (putP l x v) w' r' := by
 obtain ⟨g, hg⟩ : ∃ g, w.heap.size = g := ⟨_, rfl⟩
 obtain ⟨W1, hW1⟩ : ∃ W, w.alloc (.cells #[ptr sb] 23) = W := ⟨_, rfl⟩
 obtain ⟨W2, hW2⟩ : ∃ W, W1.alloc (.cells #[.int .u64 (r : Nat)] 27) = W := ⟨_, rfl⟩
 obtain ⟨W3, hW3⟩ : ∃ W, W2.alloc (.cells #[.string x] 9) = W := ⟨_, rfl⟩
 obtain ⟨W4, hW4⟩ : ∃ W, W3.alloc (.cells #[.int .u64 (v : Nat)] 27) = W := ⟨_, rfl⟩
 obtain ⟨W5, hW5⟩ : ∃ W, W4.alloc (.cells #[ptr sb, ptr hb, .slice none 0 0] 72) = W := ⟨_, rfl⟩
 obtain ⟨W6, hW6⟩ : ∃ W, W5.alloc (.cells #[ptr (g + 4)] 70) = W := ⟨_, rfl⟩
 have z1 : W1.heap.size = g + 1 := by rw [<- hW1]; simp [hg]
 have z2 : W2.heap.size = g + 2 := by rw [<- hW2]; simp; omega
 have z3 : W3.heap.size = g + 3 := by rw [<- hW3]; simp; omega
 have z4 : W4.heap.size = g + 4 := by rw [<- hW4]; simp; omega
 have z5 : W5.heap.size = g + 5 := by rw [<- hW5]; simp; omega
 have z6 : W6.heap.size = g + 6 := by rw [<- hW6]; simp; omega
 have f1 : St w W1 := hW1 ▸ (Fr.refl _ w).alloc _
 have f2 : St W1 W2 := hW2 ▸ (Fr.refl _ W1).alloc _
 have f3 : St W2 W3 := hW3 ▸ (Fr.refl _ W2).alloc _
 have f4 : St W3 W4 := hW4 ▸ (Fr.refl _ W3).alloc _
 have f5 : St W4 W5 := hW5 ▸ (Fr.refl _ W4).alloc _
 have f6 : St W5 W6 := hW6 ▸ (Fr.refl _ W5).alloc _
 have f46 : St W4 W6 := f5.trans' f6 nE
 have f36 : St W3 W6 := f4.trans' f46 nE
 have f26 : St W2 W6 := f3.trans' f36 nE
 have f16 : St W1 W6 := f2.trans' f26 nE
 have f06 : St w W6 := f1.trans' f16 nE
 have oS : W6.heap[g]? = some (.cells #[ptr sb] 23 (0, 0)) := by
  have := heap_alloc_new w (.cells #[ptr sb] 23)
  rw [hW1, hg] at this; exact f16.obj this id
 have oR : W6.heap[g + 1]? = some (.cells #[.int .u64 (r : Nat)] 27 (0, 0)) := by
  have := heap_alloc_new W1 (.cells #[.int .u64 (r : Nat)] 27)
  rw [hW2, z1] at this; exact f26.obj this id
 have oK : W6.heap[g + 2]? = some (.cells #[.string x] 9 (0, 0)) := by
  have := heap_alloc_new W2 (.cells #[.string x] 9)
  rw [hW3, z2] at this; exact f36.obj this id
 have oV : W6.heap[g + 3]? = some (.cells #[.int .u64 (v : Nat)] 27 (0, 0)) := by
  have := heap_alloc_new W3 (.cells #[.int .u64 (v : Nat)] 27)
  rw [hW4, z3] at this; exact f46.obj this id
 have oG : W6.heap[g + 4]? = some (.cells #[ptr sb, ptr hb, .slice none 0 0] 72 (0, 0)) := by
  have := heap_alloc_new W4 (.cells #[ptr sb, ptr hb, .slice none 0 0] 72)
  rw [hW5, z4] at this; exact f6.obj this id
 have oC : W6.heap[g + 5]? = some (.cells #[ptr (g + 4)] 70 (0, 0)) := by
  have := heap_alloc_new W5 (.cells #[ptr (g + 4)] 70)
  rw [hW6, z5] at this; exact this
 have ft : ∀ k, tfoot sb b T k -> k < g := fun k hk => by rw [<- hg]; exact h.st.lt k hk
 have c : Cg nu sz w hb sb b T A (g + 4) W6 T P (.slice none 0 0) 0 := ⟨(Onx.start h.st).quiet f06, h.still f06, by omega, h.lth, h.lt0, fun x => by have := ft _ x; omega, oG, ⟨[], World.ownsRow_nil _ _ _ _⟩, fun k hk => by cases hk⟩
 have of : ∀ k, k ≠ g + 4 -> g <= k -> k < g + 6 -> Off sb b T (g + 4) (.slice none 0 0) W6 k := fun k h1 h2 h3 => ⟨by omega, fun x => by have := ft _ x; omega, h1, fun e => by cases e⟩
 have PC : ∀ w1, St W6 w1 -> Calls Tryz.prog 31 #[ptr (g + 5), ptr g, ptr (g + 1), ptr (g + 2), ptr (g + 3)] w1 fun e w' => PutC nu sz w hb sb b T A (g + 4) w1 T P (.slice none 0 0) 0 (putP l x v) w' e := fun w1 fw =>
  y_putC (c.still fw) s rt pk ri hl x v hx hv hP room low (g + 5) g (g + 1) (g + 2) (g + 3) ((of _ (by omega) (by omega) (by omega)).still fw).2 ((of _ (by omega) (by omega) (by omega)).still fw).2 ((of _ (by omega) (by omega) (by omega)).still fw).2 ((of _ (by omega) (by omega) (by omega)).still fw).2 ((of _ (by omega) (by omega) (by omega)).still fw).2 (cOo (fw.obj oC id) 0) (cOo (fw.obj oS id) 0) (cOo (fw.obj oR id) 0) (cOo (fw.obj oK id) 0) (cOo (fw.obj oV id) 0)
 have MD := y_made c #[ptr (g + 5), ptr g, ptr (g + 1), ptr (g + 2), ptr (g + 3)] PC
 have HM := Hd MD; have HW := Hd (ai hW1 (ai hW2 (ai hW3 (ai hW4 (ai hW5 hW6)))))
 have q1 : ((x.size : Int) < 1) = False := eq_false (by omega)
 have q2 : ((80 : Int) < (x.size : Int)) = False := eq_false (by omega)
 clear h s rt pk ri hl hx hv hP room low f1 f2 f3 f4 f5 f6 f46 f36 f26 f16 f06 oS oR oK oV oG oC ft c of PC MD z1 z2 z3 z4 z5 z6 hW1 hW2 hW3 hW4 hW5 hW6
 go_enter Tryz.func8, Tryz.ntmps8
 go_wp2_with fail
 simp only [show g + 1 + 1 = g + 2 from rfl, show g + 2 + 1 = g + 3 from rfl, show g + 3 + 1 = g + 4 from rfl, show g + 4 + 1 = g + 5 from rfl]
 obtain ⟨hW1, hW2, hW3, hW4, hW5, hW6⟩ := uh HW
 rw [hW1, hW2, hW3, hW4, hW5, hW6]
 clear hW1 hW2 hW3 hW4 hW5 hW6 HW
 refine (uh HM).mono ?_
 rintro e w4 ⟨r', rfl, pe⟩
 have HE := Hd pe
 clear pe HM
 go_wp2_with fail
 go_ret
 exact ⟨r', rfl, uh HE⟩
end
end
def getP : List Pr -> ByteArray -> Option Nat
 | [], _ => none
 | p :: l, x => if p.1 = x then some p.2 else getP l x
theorem getP_none {x : ByteArray} : ∀ {l : List Pr}, (∀ p ∈ l, p.1 ≠ x) -> getP l x = none
 | [], _ => rfl
 | p :: l, h => by
  rw [getP, if_neg (h p (List.mem_cons_self ..)), getP_none (fun q hq => h q (List.mem_cons_of_mem _ hq))]
theorem getP_app {x : ByteArray} {m : List Pr} : ∀ {l : List Pr}, (∀ p ∈ l, p.1 ≠ x) -> getP (l ++ m) x = getP m x
 | [], _ => rfl
 | p :: l, h => by
  rw [List.cons_append, getP, if_neg (h p (List.mem_cons_self ..)), getP_app (fun q hq => h q (List.mem_cons_of_mem _ hq))]
theorem getP_app2 {x : ByteArray} {m : List Pr} (hm : ∀ p ∈ m, p.1 ≠ x) : ∀ {l : List Pr}, getP (l ++ m) x = getP l x
 | [] => getP_none hm
 | p :: l => by
  rw [List.cons_append, getP, getP]
  split
  ·rfl
  ·exact getP_app2 hm
theorem ltK_ne {a b : ByteArray} (h : ltK a b) : a ≠ b := fun e => by rw [e] at h; exact ltK_irr b h
theorem getP_way {B : List ByteArray} {x : ByteArray} {i : Nat} {M : List (List Pr)} (w : Way B x i) (h : Sep B M) : getP M.flatten x = getP (M.getD i []) x := by
 have hl := h.len
 have hle := w.le
 have hs := getD_split M [] i (by omega)
 have e : M.flatten = (M.take i).flatten ++ (M.getD i [] ++ (M.drop (i + 1)).flatten) := by
  rw [<- List.flatten_cons, <- List.flatten_append, <- hs]
 rw [e, getP_app (fun p hp => ltK_ne (w.ahead h p hp)), getP_app2 (fun p hp => (ltK_ne (w.behind h p hp)).symm)]
theorem getP_fst {x : ByteArray} : ∀ {l : List Pr} {k : Nat}, Rise l -> Fst (l.map (·.1)) x k -> getP l x = if k < l.length /\ (l.getD k default).1 = x then some (l.getD k default).2 else none
 | [], k, _, f => by simp [getP]
 | p :: l, 0, ri, f => by
  have h0 := f.hi 0 (Nat.le_refl _) (by simp)
  have h0' : ¬ ltK p.1 x := h0
  obtain ⟨r1, r2⟩ := List.pairwise_cons.1 ri
  unfold getP
  by_cases e : p.1 = x
  ·rw [if_pos e, if_pos ⟨by simp, e⟩]; rfl
  ·rw [if_neg e, if_neg (fun hh => e hh.2)]
   have hx : ltK x p.1 := Decidable.byContradiction fun hn => e (ltK_tri h0' hn)
   exact getP_none fun q hq => (ltK_ne (ltK_trans hx (r1 q hq))).symm
 | p :: l, k + 1, ri, f => by
  have h0 : ltK p.1 x := f.lo 0 (by omega)
  have f' : Fst (l.map (·.1)) x k := ⟨by have := f.le; simpa using this, fun t ht => f.lo (t + 1) (by omega), fun t h1 h2 => f.hi (t + 1) (by omega) (by simpa using h2)⟩
  unfold getP
  rw [if_neg (ltK_ne h0), getP_fst (List.pairwise_cons.1 ri).2 f']
  simp

section
def valH : Value -> Nat
 | .iface _ (.agg cs) => (match cs[0]? with
  | some (Value.int _ i) => i.toNat
  | _ => 0)
 | _ => 1
section
variable {nu sz : Nat} {w w' w0 : World} {hb sb b cb m : Nat} {T T0 : Tay} {A : Ab} {P : List (Int × Int)}
theorem y_Len (h : Hp nu sz w hb sb b T A P) {r : Nat} {l : List Pr} {Q : List Nat} (rt : Rt nu sz (says P A) r l Q) (hl : l.length < 900000) :
  Calls Tryz.prog 12 #[ptr sb, .int .u64 (r : Nat)] w fun e w' => e = .returned (.int .i64 (l.length : Nat)) /\ St w w' := by
 have TP := y_topR h rt
 clear h rt
 go_enter Tryz.func12, Tryz.ntmps12
 go_wp2_with fail
 refine TP.mono ?_
 rintro e w1 ⟨v, n, rfl, nd, f1, hcs⟩
 have hn : n.pairs = l.length /\ n.items.length <= 32 := by
  rcases hcs with ⟨rfl, rfl, _⟩ | ⟨h', u, Q', st, un, _⟩
  ·exact ⟨rfl, by simp [Nd.items]⟩
  ·refine ⟨un.pairs, ?_⟩
   have := st.le
   have e : n.size = hsz n.items.length (kb n.keys) := rfl
   unfold hsz need at e
   omega
 clear TP hcs
 cases n using Nd.cs with
 | lf l' =>
  obtain ⟨a, c, rfl, hL, _⟩ := nd
  have LP := fun w' => l_pairs a l'.length c w'
  have e : l'.length = l.length := hn.1
  rw [e] at LP ⊢
  clear hL hn
  go_wp2_with fail
  refine (LP _).mono ?_
  rintro e w8 ⟨rfl, rfl⟩
  go_wp2_with fail
  go_ret
  exact ⟨rfl, f1⟩
 | br hh B ks =>
  obtain ⟨ba, bc, ka, kc, rfl, hB, hK, _, _⟩ := nd
  have e : (ks.map (·.2)).sum = l.length := hn.1
  have LP := b_pairs hh ba B.length bc ka kc ks w1 hK (by have := hn.2; simp [Nd.items] at this; omega) (by omega)
  rw [e] at LP
  clear hB hK hn e
  go_wp2_with fail
  refine LP.mono ?_
  rintro e w8 ⟨rfl, f8⟩
  go_wp2_with fail
  go_ret
  exact ⟨rfl, f1.trans' f8 nE⟩
set_option maxRecDepth 100000 in
theorem y_Get (h : Hp nu sz w hb sb b T A P) {r : Nat} {l : List Pr} {Q : List Nat} (rt : Rt nu sz (says P A) r l Q) (ri : Rise l) (x : ByteArray) :
  Calls Tryz.prog 14 #[ptr sb, .int .u64 (r : Nat), .string x] w fun e w' => e = .returned (.tuple #[.int .u64 ((getP l x).getD 0 : Nat), .bool (getP l x).isSome]) /\ St w w' := by
 have TP := y_topR h rt
 have HH := Hd h
 clear h rt
 go_enter Tryz.func14, Tryz.ntmps14
 go_wp2_with fail
 refine TP.mono ?_
 rintro e w1 ⟨v, n, rfl, nd, f1, hcs⟩
 clear TP
 go_wp2_with fail
 go_loopw [8] (fun v8 wr => ∃ (n : Nd) (l' : List Pr), NdO (fun _ => True) wr v8 n /\ St w wr /\ getP l x = getP l' x /\ Rise l' /\ valH v8 = n.high /\ ((n = .lf l' /\ l'.length <= 32) \/ ∃ h' Q', n.size <= 32 /\ Un nu (Tr nu sz (says P A) h') (h' + 1) n l' Q' /\ n.high = h' + 1)) (fun v8 _ => valH v8)
 case atStart =>
  have hv : valH v = n.high := by
   cases n using Nd.cs with
   | lf l' => obtain ⟨a, c, rfl, _⟩ := nd; rfl
   | br hh B ks => obtain ⟨ba, bc, ka, kc, rfl, _⟩ := nd; simp [valH, Nd.high]
  refine ⟨n, l, nd.mono fun _ _ => trivial, f1, rfl, ri, hv, ?_⟩
  rcases hcs with ⟨rfl, rfl, _⟩ | ⟨h', u, Q', st, un, _⟩
  ·exact .inl ⟨rfl, by simp⟩
  ·refine .inr ⟨h', Q', st.le, un, ?_⟩
   rcases un with ⟨e, rfl, _⟩ | ⟨_, B, ks, rfl, _⟩
   ·exact e.symm
   ·rfl
 case round =>
  obtain ⟨n, l', nd, fr, eg, ri', hvh, hcs⟩ := hrel
  generalize wr = wq at *
  clear wr
  cases n using Nd.cs with
  | lf l2 =>
   have el : l2 = l' /\ l'.length <= 32 := by
    rcases hcs with ⟨e, h1⟩ | ⟨h', Q', h1, un, _⟩
    ·cases e; exact ⟨rfl, h1⟩
    ·rcases un with ⟨_, e, _⟩ | ⟨_, B, ks, e, _⟩
     ·cases e
      rw [lf_size] at h1
      unfold hsz need at h1
      exact ⟨rfl, by omega⟩
     ·cases e
   obtain ⟨rfl, hl32⟩ := el
   obtain ⟨a, c, rfl, hL, _⟩ := nd
   obtain ⟨k, fk⟩ := fst_of x (l2.map (·.1)) ri'.keys
   have hkl : k <= l2.length := by have := fk.le; simpa using this
   have gp := getP_fst ri' fk
   obtain ⟨W, hW⟩ : ∃ W, wq.alloc (.cells #[.int .i64 0, .slice none 0 0, .slice none 0 0] 92) = W := ⟨_, rfl⟩
   have fW : St wq W := hW ▸ (Fr.refl _ wq).alloc _
   have FD := l_find a l2.length c (fun t => (l2.getD t default).1) (fun t => (l2.getD t default).2) x k W (fun i hi => (hL.still fW).pair (p := l2.getD i default) (by simp [List.getD, List.getElem?_eq_getElem hi])) (by omega) hkl (fun t ht => by rw [<- keys_getD l2 t (by omega)]; exact fk.lo t ht) (fun t h1 h2 => by rw [<- keys_getD l2 t h2]; exact fk.hi t h1 (by simpa using h2))
   have t1 := fun w => taB_leaf (.slice a l2.length c) w
   have t2 := fun w => taL_leaf (.slice a l2.length c) w
   have HW := Hd hW
   have HF := Hd (fr.trans' fW nE)
   by_cases hc : k < l2.length /\ (l2.getD k default).1 = x
   ·rw [if_pos hc] at gp
    rw [decide_eq_true hc] at FD
    obtain ⟨b1, o1, rfl, c1, c2⟩ := (hL.still fW).pair (p := l2.getD k default) (k := k) (by simp [List.getD, List.getElem?_eq_getElem hc.1])
    have q1 : (k : Int) < l2.length := by omega
    have HG := Hd (ai eg gp)
    have hk32 : k <= 32 := by omega
    clear hL fk hW gp eg hcs ri' fr hvh hc
    generalize (l2.getD k default).2 = vv at *
    generalize l2.length = n at *
    go_wp2_with (first | (rw [uh HW]; go_at_call 44; refine FD.mono ?_; rintro e w3 ⟨rfl, f3⟩; replace c2 := f3.cell' c2 id) | fail)
    go_ret2
    obtain ⟨eg, gp⟩ := uh HG
    refine ⟨?_, (uh HF).trans' f3 nE⟩
    rw [eg, gp]
    rfl
   ·rw [if_neg hc] at gp
    rw [decide_eq_false hc] at FD
    have HG := Hd (ai eg gp)
    clear hL fk hW gp eg hcs ri' fr hvh hc
    generalize l2.length = n at *
    go_wp2_with (first | (rw [uh HW]; go_at_call 44; refine FD.mono ?_; rintro e w3 ⟨rfl, f3⟩) | fail)
    go_ret2
    obtain ⟨eg, gp⟩ := uh HG
    refine ⟨?_, (uh HF).trans' f3 nE⟩
    rw [eg, gp]
    rfl
  | br hh B ks0 =>
   obtain ⟨h', Q', le, un, hhi⟩ : ∃ h' Q', (Nd.br hh B ks0).size <= 32 /\ Un nu (Tr nu sz (says P A) h') (h' + 1) (.br hh B ks0) l' Q' /\ (Nd.br hh B ks0).high = h' + 1 := by
    rcases hcs with ⟨e, _⟩ | hh
    ·cases e
    ·exact hh
   rcases un with ⟨_, e, _⟩ | ⟨h2, B', ks, e, fo⟩
   ·cases e
   cases e
   obtain ⟨ba, bc, ka, kc, rfl, hB, hK, _, _⟩ := nd
   have hmk : (ks.map (kidN nu)).length = ks.length := List.length_map _
   have hlen : ks.length = B.length + 1 := by have := fo.2.2.2.1.len; simpa using this
   have hks : ks.length <= 32 := by rw [br_size, hmk] at le; unfold hsz need at le; omega
   obtain ⟨k, fk⟩ := fst_of x B fo.2.2.2.1.rise
   have way := way_of fo.2.2.2.1.rise fk
   obtain ⟨i, hi⟩ : ∃ i, (if k < B.length /\ B.getD k default = x then k + 1 else k) = i := ⟨_, rfl⟩
   rw [hi] at way
   have hil : i < ks.length := by have := way.le; omega
   obtain ⟨kk, hkk⟩ : ∃ kk, ks[i]? = some kk := ⟨_, List.getElem?_eq_getElem hil⟩
   have hkm := List.mem_of_getElem? hkk
   have tr1 := fo.1 kk hkm
   have sub := fo.sub hkm
   obtain ⟨h1, eh, n1, Q1, st1, un1, hn1⟩ := tr1.node
   have eg1 : getP l' x = getP kk.2.1 x := by
    rw [fo.2.1, getP_way way fo.2.2.2.1]
    congr 1
    simp [List.getD, hkk]
   have hk2 : (ks.map (kidN nu))[i]? = some (fi nu + 8 * kk.1, kk.2.1.length) := by rw [List.getElem?_map, hkk]; rfl
   have hp := (uh HH).still fr
   have TW : ∀ w1, St wq w1 -> Calls Tryz.prog 43 #[brV (h' + 1) ba B.length bc ka (ks.map (kidN nu)).length kc, .string x] w1 fun e w' => e = .returned (.int .i64 (i : Nat)) /\ St w1 w' := fun w1 f1 => by
    have := b_towards (h' + 1) ba bc B ka (ks.map (kidN nu)).length kc x k w1 (hB.still f1) fk (by omega)
    rw [hi] at this
    exact this
   have KD : ∀ w1, St wq w1 -> Calls Tryz.prog 42 #[brV (h' + 1) ba B.length bc ka (ks.map (kidN nu)).length kc, ptr sb, .int .i64 i] w1 _ := fun w1 f1 => b_kid (hp.still f1) (h' + 1) ba B.length bc ka kc (ks.map (kidN nu)) i kk.1 n1 (hK.still f1) (by omega) kk.2.1.length hk2 st1 (by omega)
   obtain ⟨W, hW⟩ : ∃ W, wq.alloc (.cells #[.int .i64 ((h' + 1 : Nat) : Int), .slice ba B.length bc, .slice ka (ks.map (kidN nu)).length kc] 92) = W := ⟨_, rfl⟩
   have fW : St wq W := hW ▸ (Fr.refl _ wq).alloc _
   have oW : W.heap[wq.heap.size]? = some (.cells #[.int .i64 ((h' + 1 : Nat) : Int), .slice ba B.length bc, .slice ka (ks.map (kidN nu)).length kc] 92 (0, 0)) := hW ▸ heap_alloc_new wq _
   have d0 : W.cell? ⟨wq.heap.size, 0, none⟩ = some (.int .i64 ((h' + 1 : Nat) : Int)) := cOo oW 0
   have d1 : W.cell? ⟨wq.heap.size, 1, none⟩ = some (.slice ba B.length bc) := cOo oW 1
   have d2 : W.cell? ⟨wq.heap.size, 2, none⟩ = some (.slice ka (ks.map (kidN nu)).length kc) := cOo oW 2
   have HTW := @Hd _ TW; have HKD := @Hd _ KD; have HW := Hd hW
   have HI := Hd (ai fr (ai fW (ai eg (ai eg1 (ai (ri'.sub sub.1) (ai st1 (ai un1 (ai hn1 eh))))))))
   have t1 := fun w => taB_br (brV (h' + 1) ba B.length bc ka (ks.map (kidN nu)).length kc) w
   have hvm : valH (.iface 92 (brV (h' + 1) ba B.length bc ka (ks.map (kidN nu)).length kc)) = h' + 1 := hvh
   have i5 : i <= 500 := by omega
   clear TW KD hW fW oW fo hB hK hcs le hlen hks fk way hi hil hkk hkm tr1 sub st1 un1 hn1 eg1 eg hk2 hp hvh hhi ri ri' fr hmk h2
   have HV := Hd hvm
   clear hvm
   generalize (ks.map (kidN nu)).length = nk at *
   generalize B.length = nb at *
   generalize hhq : h' + 1 = hh at *
   go_wp2_with fail
   rw [uh HW]
   clear HW
   generalize wq.heap.size = g at *
   refine wp_region_held_drew (S := fun w' => w'.cell? ⟨g, 0, none⟩ = some (.int .i64 (hh : Nat)) /\ w'.cell? ⟨g, 1, none⟩ = some (.slice ba nb bc) /\ w'.cell? ⟨g, 2, none⟩ = some (.slice ka nk kc)) (by kernel_rfl) ⟨d0, d1, d2⟩ (fun hHeld => ?_)
   refine tkO 0 (.agg #[.int .i64 (hh : Nat), .slice ba nb bc, .slice ka nk kc]) hHeld rfl ?_ ?_
   ·rintro w ⟨x0, x1, x2⟩;go_simp;try with_reducible rfl
   simp only [apt, List.set]
   refine tkO 1 ?_ hHeld rfl ?_ ?_
   rotate_left
   ·intro w q;go_simp;try with_reducible rfl
   simp only [apt, List.set]
   refine tkO 2 (.agg #[.int .i64 (hh : Nat), .slice ba nb bc, .slice ka nk kc]) hHeld rfl ?_ ?_
   ·rintro w ⟨x0, x1, x2⟩;go_simp;try with_reducible rfl
   simp only [apt, List.set]
   refine tkO 3 ?_ hHeld rfl ?_ ?_
   rotate_left
   ·intro w q;go_simp;try with_reducible rfl
   simp only [apt, List.set]
   refine rdO 4 rfl (fun K hK => ?_)
   go_simp
   go_wp2_with fail
   obtain ⟨fr, fW, eg, eg1, ri1, st1, un1, hn1, eh⟩ := uh HI
   have fD2 : St W W.drew := (Fr.refl _ W).drewN 1
   have fD : St wq W.drew := fW.trans' fD2 nE
   refine (uh HTW _ fD).mono ?_
   rintro e w3 ⟨rfl, f3⟩
   have fW3 : St W w3 := fD2.trans' f3 nE
   have f03 : St wq w3 := fD.trans' f3 nE
   refine hK.out _ _ ⟨fW3.cell' d0 id, fW3.cell' d1 id, fW3.cell' d2 id⟩ (fun _ => ?_)
   clear hK K hHeld
   refine rdO 5 rfl (fun K hK => ?_)
   go_simp
   go_wp2_with fail
   refine (uh HKD _ f03).mono ?_
   rintro e w4 ⟨nv4, rfl, nd4, f4⟩
   have fW4 : St W w4 := fW3.trans' f4 nE
   have hS := ai (fW4.cell' d0 id) (ai (fW4.cell' d1 id) (fW4.cell' d2 id))
   refine hK.out _ _ hS (fun _ => ?_)
   clear hK K
   refine rdO 6 rfl (fun K hK => ?_)
   go_simp
   refine hK.out _ _ hS (fun _ => ?_)
   clear hK K
   refine wpAnyH_done (by kernel_rfl) ?_ _
   have HJ := Hd (ai nd4 (ai (fr.trans' (f03.trans' f4 nE) nE) (ai (eg.trans eg1) (ai ri1 (ai st1 (ai un1 (ai hn1 eh)))))))
   clear nd4 fr fW eg eg1 ri1 st1 un1 hn1 eh hS fW4 f4 f03 fW3 f3 fD fD2 d0 d1 d2 HI HTW HKD t1
   go_wp2_with fail
   obtain ⟨nd4, f04, eg, ri1, st1, un1, hn1, eh⟩ := uh HJ
   have hv4 : valH nv4 = n1.high := by
    cases n1 using Nd.cs with
    | lf l' => obtain ⟨a, c, rfl, _⟩ := nd4; rfl
    | br hh B ks => obtain ⟨ba, bc, ka, kc, rfl, _⟩ := nd4; simp [valH, Nd.high]
   exact ⟨⟨n1, kk.2.1, nd4.mono fun _ _ => trivial, f04, eg, ri1, hv4, .inr ⟨h1, Q1, st1.le, un1, hn1⟩⟩, by rw [hv4, hn1, uh HV]; omega⟩
end
end
end Go.Proofs.YtbpndmghlnadiaaGreatDoor
