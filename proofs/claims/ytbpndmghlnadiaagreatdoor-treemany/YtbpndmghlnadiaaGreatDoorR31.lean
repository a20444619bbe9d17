/- Joined: Kc Kd Kb Ke Kj Kk. -/
import Derived.Test.YtbpndmghlnadiaaGreatDoorR06
import Derived.Test.YtbpndmghlnadiaaGreatDoorR27
import Derived.Test.YtbpndmghlnadiaaGreatDoorR30
namespace Go.Proofs.YtbpndmghlnadiaaGreatDoor
open Go.RowKit
set_option maxHeartbeats 4000000

section
def Yok (X : Nat -> Prop) (w0 : World) (sb b : Nat) (T : Tay) (w : World) (Y : Nat -> Prop) : Prop := ∀ k, Y k -> k < w.heap.size /\ ¬ tfoot sb b T k /\ (X k \/ w0.heap.size <= k)
def ChangeY (X : Nat -> Prop) (w : World) (sb b : Nat) (T : Tay) (n : Nat) (A : Ab) (fv : Value) (R : (Nat -> Prop) -> How -> List (Int × Int) -> World -> Prop) : Prop :=
 ∀ w1, St w w1 -> Acts fv w1 fun h w2 => (h = .well \/ ∃ i, h = .errno i) /\ ∃ T' P' Y, OnxX X w1 sb b T w2 T' n A P' false /\ Yok X w1 sb b T' w2 Y /\ R Y h P' w2
def StaysY (R : (Nat -> Prop) -> How -> List (Int × Int) -> World -> Prop) : Prop := ∀ (Y : Nat -> Prop) (h : How) (P : List (Int × Int)) (w w' : World) (F : Nat -> Prop), R Y h P w -> Fr F w w' -> (∀ k, Y k -> ¬ F k) -> R Y h P w'
def DidY (X : Nat -> Prop) (w : World) (sb b : Nat) (T : Tay) (n N : Nat) (free : Prop) (A : Ab) (s : Int) (base : Nat -> Int) (R : (Nat -> Prop) -> How -> List (Int × Int) -> World -> Prop) (e : Ending) (w' : World) : Prop :=
 (∃ P' Y, R Y .well P' w' /\ e = .returned (.int .i64 0) /\ ∃ T' A', OnxX X w sb b T w' T' n A' [] false /\ Yok X w sb b T' w' Y /\ Done N free (s + 30729) base P' A') \/
 (∃ P' Y, R Y .well P' w' /\ e = .returned (.int .i64 50) /\ ∃ T' A', OnxX X w sb b T w' T' n A' P' true /\ Yok X w sb b T' w' Y /\ Gone N free (s + 30729) base P' A') \/
 (∃ i P' Y, R Y (.errno i) P' w' /\ e = .returned (.int .i64 i) /\ ∃ T', OnxX X w sb b T w' T' n A [] false /\ Yok X w sb b T' w' Y)
section
variable {X : Nat -> Prop} {w w' w0 : World} {sb b : Nat} {T T0 T' : Tay} {n N : Nat} {A A' : Ab} {P P' : List (Int × Int)} {dd dd' : Bool} {free : Prop} {s : Int} {f base : Nat -> Int}
theorem Yok.after {Y : Nat -> Prop} {w1 : World} (h : Yok X w1 sb b T w Y) (hf : St w0 w1) : Yok X w0 sb b T w Y := fun k hk => ⟨(h k hk).1, (h k hk).2.1, (h k hk).2.2.imp id (fun x => Nat.le_trans hf.size x)⟩
theorem Yok.trans {Y : Nat -> Prop} {w1 : World} {T1 : Tay} {A1 : Ab} {P1 : List (Int × Int)} {dd1 : Bool} (h : Yok X w0 sb b T w Y) (k : Onx w sb b T w1 T1 n A1 P1 dd1) : Yok X w0 sb b T1 w1 Y := fun j hj => ⟨Nat.lt_of_lt_of_le (h j hj).1 k.fr.size, k.other (h j hj).1 (h j hj).2.1, (h j hj).2.2⟩
theorem t_doY {g : Nat} {fi ca : Array Value} {R : (Nat -> Prop) -> How -> List (Int × Int) -> World -> Prop} (h : StL w sb b T n A P false) (c : Calm N free A s f) (hc : Clean 0 12304 base f) (hX : ∀ k, X k -> k < w.heap.size /\ ¬ tfoot sb b T k) (hR : StaysY R)
  (hf : ChangeY X w sb b T n A (.func (.func g) fi ca) R) (hs : s + 30729 < 4294967296) :
  Calls Tryz.prog 6 #[ptr sb, .func (.func g) fi ca] w (DidY X w sb b T n N free A s base R) := by
 obtain ⟨W, hW⟩ : ∃ W, w.alloc (.cells #[.func (.func g) fi ca, .func (.func 28) #[ptr sb] #[]] 1) = W := ⟨_, rfl⟩
 have fW : St w W := hW ▸ (Fr.refl _ w).alloc _
 have zW : W.heap.size = w.heap.size + 1 := by rw [<- hW]; simp
 have hb : W.heap[w.heap.size]? = some (.cells #[.func (.func g) fi ca, .func (.func 28) #[ptr sb] #[]] 1) := hW ▸ heap_alloc_new w _
 have hWs := h.still fW
 have nT : ¬ (tfoot sb b T w.heap.size \/ X w.heap.size) := fun e => by
  rcases e with e | e
  ·have := h.lt _ e; omega
  ·have := (hX _ e).1; omega
 have xl : ∀ k, X k -> k < W.heap.size := fun k hk => by have := (hX k hk).1; omega
 have E := each_two (lb := w.heap.size) (f := .func (.func g) fi ca) (g := .func (.func 28) #[ptr sb] #[]) (w := W)
  (I1 := fun w' => ∃ T' P' Y, OnxX X W sb b T w' T' n A P' false /\ Yok X W sb b T' w' Y /\ R Y .well P' w')
  (I2 := fun w' => ∃ P' Y, R Y .well P' w' /\ ∃ T' A', OnxX X W sb b T w' T' n A' [] false /\ Yok X W sb b T' w' Y /\ Done N free (s + 30729) base P' A')
  (S := fun h w' => (∃ i P' Y, h = .errno i /\ R Y (.errno i) P' w' /\ ∃ T', OnxX X W sb b T w' T' n A P' false /\ Yok X W sb b T' w' Y) \/ (∃ P' Y, h = .lost /\ R Y .well P' w' /\ ∃ T' A', OnxX X W sb b T w' T' n A' P' true /\ Yok X W sb b T' w' Y /\ Gone N free (s + 30729) base P' A'))
  (cOo hb 0)
  (try_fr (F := fun k => tfoot sb b T k \/ X k) (fun k hk => hk.elim (hWs.lt k) (xl k)) ((hf (W.alloc box) (fW.alloc box)).mono (by
   rintro k w2 ⟨hk, T', P', Y, o, yo, r⟩
   refine ⟨o.fr, fun w3 f3 => ?_⟩
   have o3 := OnxX.boxed hWs (Fr.refl _ W) o f3
   have zb : (W.alloc box).heap.size = W.heap.size + 1 := by simp
   have r3 : R Y k P' w3 := hR _ _ _ _ _ _ r f3 (fun j hj e => by
    rcases (yo j hj).2.2 with x | x
    ·have := xl j x; omega
    ·omega)
   have y3 : Yok X W sb b T' w3 Y := fun j hj => ⟨Nat.lt_of_lt_of_le (yo j hj).1 f3.size, (yo j hj).2.1, (yo j hj).2.2.imp id (fun x => by omega)⟩
   rcases hk with rfl | ⟨i, rfl⟩
   ·exact .inl ⟨rfl, (o3.fr.cell' (cOo hb 1) nT), T', P', Y, o3, y3, r3⟩
   ·exact .inr ⟨rfl, .inl ⟨i, P', Y, rfl, r3, T', o3, y3⟩⟩)))
  (by
   rintro w1 ⟨T1, P1, Y, o1, y1, r1⟩
   have few := o1.st.few
   refine try_store o1.st (acts_of (fun _ _ => by kernel_rfl) ((t_commit (o1.st.still ((Fr.refl _ w1).alloc box)) c hc (by omega)).mono ?_))
   rintro e w2 (⟨rfl, T', A', o, d⟩ | ⟨rfl, T', A', o, d⟩)
   ·refine ⟨.well, rfl, o.fr, fun w3 f3 => .inl ⟨rfl, P1, Y, ?_, T', A', o1.trans (Onx.boxed o1.st (Fr.refl _ w1) o f3), y1.trans (Onx.boxed o1.st (Fr.refl _ w1) o f3), d.more (by omega)⟩⟩
    exact hR _ _ _ _ _ _ r1 (Onx.boxed o1.st (Fr.refl _ w1) o f3).fr (fun j hj => (y1 j hj).2.1)
   ·refine ⟨.lost, How.ended_one _ _, o.fr, fun w3 f3 => .inr ⟨rfl, .inr ⟨P1, Y, rfl, ?_, T', A', o1.trans (Onx.boxed o1.st (Fr.refl _ w1) o f3), y1.trans (Onx.boxed o1.st (Fr.refl _ w1) o f3), d.more (by omega)⟩⟩⟩
    exact hR _ _ _ _ _ _ r1 (Onx.boxed o1.st (Fr.refl _ w1) o f3).fr (fun j hj => (y1 j hj).2.1))
 have c5 := h.c5
 have h1 := mf
 have HE := Hd E; have HW := Hd hW; have HFW := Hd fW; have HR := @Hd _ hR
 clear E hW fW zW hb hWs nT h c hc hf xl hX hR
 unfold DidY
 go_enter Tryz.func6, Tryz.ntmps6
 go_wp2_with fail
 rw [uh HW]
 refine (uh HE).mono ?_
 clear HE
 rintro e w2 ⟨k, ⟨rfl, P', Y, r, x⟩ | ⟨h, rfl, x⟩⟩
 ·have K := settle_nil (sb := sb) w2
  have HX := Hd x; have HRR := Hd r
  clear x r
  go_wp2_with fail
  refine K.mono ?_
  rintro e w3 ⟨rfl, hh⟩
  replace hh := hh.symm
  subst hh
  clear K
  go_wp2
  go_ret
  obtain ⟨T', A', o, yo, d⟩ := uh HX
  exact .inl ⟨P', Y, uh HRR, rfl, T', A', o.after (uh HFW), yo.after (uh HFW), d⟩
 ·rcases x with ⟨i, P', Y, rfl, r, T', o, yo⟩ | ⟨P', Y, rfl, r, T', A', o, yo, d⟩
  ·have K := Hd (settle_errno o.st i)
   have HX := Hd (ai r (ai o yo))
   clear r o yo
   simp only [How.v]
   go_wp2_with fail
   refine (uh K).mono ?_
   rintro e w3 ⟨rfl, T3, -, o3⟩
   have HO3 := Hd o3
   clear K o3
   go_wp2
   go_ret
   obtain ⟨r, o, yo⟩ := uh HX
   exact .inr (.inr ⟨i, P', Y, uh HR _ _ _ _ _ _ r (uh HO3).fr (fun j hj => (yo j hj).2.1), rfl, T3, (o.trans (uh HO3)).after (uh HFW), (yo.trans (uh HO3)).after (uh HFW)⟩)
  ·have K := Hd (settle_lost o.st)
   have HX := Hd (ai r (ai o (ai yo d)))
   clear r o yo d
   simp only [How.v]
   go_wp2_with fail
   refine (uh K).mono ?_
   rintro e w3 ⟨rfl, T3, -, o3⟩
   have HO3 := Hd o3
   clear K o3
   go_wp2
   go_ret
   obtain ⟨r, o, yo, d⟩ := uh HX
   exact .inr (.inl ⟨P', Y, uh HR _ _ _ _ _ _ r (uh HO3).fr (fun j hj => (yo j hj).2.1), rfl, T3, A', (o.trans (uh HO3)).after (uh HFW), (yo.trans (uh HO3)).after (uh HFW), d⟩)
end
section
variable {nu sz : Nat} {w w' w0 : World} {X V : Nat -> Prop} {hb sb b : Nat} {T : Tay} {A : Ab} {N : Nat} {free : Prop} {s : Int} {base : Nat -> Int}
def DidZ (nu sz : Nat) (w0 : World) (X V : Nat -> Prop) (w : World) (hb sb b : Nat) (T : Tay) (A : Ab) (N : Nat) (s : Int) (base : Nat -> Int) (R : (Nat -> Prop) -> How -> List (Int × Int) -> World -> Prop) (e : Ending) (w' : World) : Prop :=
 Fr (fun k => tfoot sb b T k \/ V k) w w' /\ ((∃ P' T' A' Y, R Y .well P' w' /\ e = .returned (.int .i64 0) /\ HpC nu sz w0 (fun k => X k \/ Y k) w' hb sb b T' A' N True (s + 30729) (homed P' base)) \/
 (∃ i P' T' Y, R Y (.errno i) P' w' /\ e = .returned (.int .i64 i) /\ HpC nu sz w0 (fun k => X k \/ Y k) w' hb sb b T' A N True s base))
theorem HpC.doZ {g : Nat} {fi ca : Array Value} {R : (Nat -> Prop) -> How -> List (Int × Int) -> World -> Prop} (h : HpC nu sz w0 X w hb sb b T A N True s base) (hV : ∀ k, V k -> X k) (hn : ¬ V hb) (hR : StaysY R)
  (hf : ChangeY V w sb b T sz A (.func (.func g) fi ca) R) (hs : s + 30729 < 4294967296) :
  Calls Tryz.prog 6 #[ptr sb, .func (.func g) fi ca] w (DidZ nu sz w0 X V w hb sb b T A N s base R) := by
 obtain ⟨f, c, k⟩ := h.cl
 refine (t_doY h.hd.st c k (fun k hk => ⟨(h.hd.xl k (hV k hk)).2, h.hd.ap k (hV k hk)⟩) hR hf hs).mono ?_
 have key : ∀ {w' : World} {T' : Tay} {A' : Ab} {Y : Nat -> Prop}, OnxX V w sb b T w' T' sz A' [] false -> Yok V w sb b T' w' Y -> Hold w0 (fun k => X k \/ Y k) w' sb b sz T' A' [] false /\ HpL nu sz w' hb sb := by
  intro w' T' A' Y o yo
  refine ⟨⟨o.st, h.hd.fr.trans' o.fr (fun k hk => .inr (hk.elim (h.hd.new k) (fun x => (h.hd.xl k (hV k x)).1))), fun k hk => (o.sub k hk).elim (h.hd.new k) (fun x => Nat.le_trans h.hd.fr.size x), fun k hk => ?_, fun k hk => ?_⟩, ?_⟩
  ·rcases hk with hk | hk
   ·exact o.other (h.hd.xl k hk).2 (h.hd.ap k hk)
   ·exact (yo k hk).2.1
  ·rcases hk with hk | hk
   ·exact ⟨(h.hd.xl k hk).1, Nat.lt_of_lt_of_le (h.hd.xl k hk).2 o.fr.size⟩
   ·exact ⟨(yo k hk).2.2.elim (fun x => (h.hd.xl k (hV k x)).1) (fun x => Nat.le_trans h.hd.fr.size x), (yo k hk).1⟩
  refine h.hp.kept o.fr (fun e => e.elim (h.hd.ap hb h.xh) hn) (fun e => ?_)
  have l0 := h.l0
  rcases e with e | e
  ·have := h.hd.new 0 e; omega
  ·have := (h.hd.xl 0 (hV 0 e)).1; omega
 rintro e w' (⟨P', Y, r, rfl, T', A', o, yo, f', c', k'⟩ | ⟨_, _, _, _, _, _, _, _, hg, _⟩ | ⟨i, P', Y, r, rfl, T', o, yo⟩)
 ·exact ⟨o.fr, .inl ⟨P', T', A', Y, r, rfl, (key o yo).1, ⟨f', c', k'⟩, (key o yo).2, .inl h.xh, h.l0⟩⟩
 ·exact absurd trivial hg
 ·exact ⟨o.fr, .inr ⟨i, P', T', Y, r, rfl, (key o yo).1, ⟨f, c, k⟩, (key o yo).2, .inl h.xh, h.l0⟩⟩
end
end

section
theorem Fr.box (w : World) (r : Nat) (v : Value) : Fr (fun k => k = r) w (w.setCell ⟨r, 0, none⟩ v) := (Fr.refl (fun k => k = r) w).setCell (.inl rfl) v
def awL : List Pr := [(⟨#[97]⟩, 1), (⟨#[98]⟩, 2)]
theorem awL_is : putP (putP [] ⟨#[98]⟩ 2) ⟨#[97]⟩ 1 = awL := by
 have h1 : ¬ ltK ⟨#[98]⟩ ⟨#[97]⟩ := by decide
 have h2 : ¬ (⟨#[98]⟩ : ByteArray) = ⟨#[97]⟩ := by decide
 simp [putP, h1, h2, awL]
theorem awG_is : getP awL ⟨#[98]⟩ = some 2 := by
 have h2 : ¬ (⟨#[97]⟩ : ByteArray) = ⟨#[98]⟩ := by decide
 simp [getP, awL, h2]
theorem rowp_form {w : World} {lo n : Nat} {v : Value} {xs : List Value} (h : w.ownsRow lo 43 2 v n xs) : (v = .slice none 0 0 /\ n = 0) \/ ∃ g cap, v = .slice (some ⟨g, 0, none⟩) n cap := by
 rcases h.2 with ⟨e, h0⟩ | ⟨g, cap, _, e, _⟩
 ·exact .inl ⟨e, h0⟩
 ·exact .inr ⟨g, cap, e⟩
section
variable {nu sz : Nat} {w w' w0 : World} {hb sb b bs bh bl bo : Nat} {T : Tay} {A : Ab} {P : List (Int × Int)} {v1 v2 : Value}
set_option maxRecDepth 20000 in
theorem awC11 (h : Hp nu sz w hb sb b T A P) (s : HpS nu (says P A)) (ak : ask nu (says P A) = fun _ => 0) (hP : P.length + 4600 <= 6144) (hnu : 60 < nu / 4)
  (cs : w.cell? ⟨bs, 0, none⟩ = some (ptr sb)) (ch : w.cell? ⟨bh, 0, none⟩ = some (ptr hb)) (Bl : Box w bl v1) (Bo : Box w bo v2) (nt : ∀ k, k = bs \/ k = bh \/ k = bl \/ k = bo -> ¬ tfoot sb b T k)
  (ne : bs ≠ bl /\ bs ≠ bo /\ bl ≠ bo /\ hb ≠ bl /\ 0 ≠ bl) :
  Calls Tryz.prog 51 #[ptr bs, ptr bh, ptr bl, ptr bo] w fun e w' => e = .returned (.tuple #[]) /\ ∃ T' P' v, OnxX (fun k => k = bl \/ k = bo) w sb b T w' T' sz A P' false /\ Box w' bl v /\ Box w' bo (.bool true) /\ w'.ownsRow w.heap.size 43 2 v 2 (pcl awL) /\ (∀ k, v.ownBlock = some k -> ¬ tfoot sb b T' k) /\ ¬ tfoot sb b T' bl /\ ¬ tfoot sb b T' bo := by
 have fD : St w w.drew := (Fr.refl _ w).drewN 1
 have low0 : ∀ u, ask nu (says P A) u <= 32 := fun u => by rw [ak]; exact Nat.zero_le _
 have c0 : cnt nu (ask nu (says P A)) = 0 := by rw [ak, cnt_none]
 have PUT1 : Calls Tryz.prog 8 #[ptr sb, ptr hb, .int .u64 0, .string ⟨#[98]⟩, .int .u64 2] w.drew _ := y_Put (h.still fD) s (r := 0) (l := []) (Q := []) (.inl ⟨rfl, rfl, rfl⟩) (fun p hp => by cases hp) List.Pairwise.nil (by simp) ⟨#[98]⟩ 2 (by decide) (by omega) (by omega) (by omega) low0
 have lbs : bs < w.heap.size := World.block_lt_of_cell? _ _ cs
 have lbh : bh < w.heap.size := World.block_lt_of_cell? _ _ ch
 have lbl := Bl.lt; have lbo := Bo.lt
 have HP1 := Hd PUT1
 have HX := Hd (ai h (ai fD (ai hP (ai low0 (ai c0 (ai hnu (ai Bl Bo))))))); have HNT := @Hd _ nt
 clear PUT1 h fD low0 c0 hP hnu s ak Bl Bo nt
 go_enter Tryz.func51, Tryz.ntmps51
 go_wp2_with fail
 refine wp_region_held_drew (S := fun w' => w'.cell? ⟨bs, 0, none⟩ = some (ptr sb) /\ w'.cell? ⟨bh, 0, none⟩ = some (ptr hb)) (by kernel_rfl) ⟨cs, ch⟩ (fun hHeld => ?_)
 refine tkO 0 ?_ hHeld rfl ?_ ?_
 rotate_left
 ·intro w q;go_simp;try with_reducible rfl
 simp only [apt, List.set]
 refine tkO 1 ?_ hHeld rfl ?_ ?_
 rotate_left
 ·intro w q;go_simp;try with_reducible rfl
 simp only [apt, List.set]
 refine tkO 2 ?_ hHeld rfl ?_ ?_
 rotate_left
 ·intro w q;go_simp;try with_reducible rfl
 simp only [apt, List.set]
 refine tkO 3 ?_ hHeld rfl ?_ ?_
 rotate_left
 ·intro w q;go_simp;try with_reducible rfl
 simp only [apt, List.set]
 refine rdO 4 rfl (fun K hK => ?_)
 go_simp
 go_wp2_with fail
 refine (uh HP1).mono ?_
 clear HP1
 rintro e w2 ⟨r1, rfl, T2, P2, Q1, k1, hk1, o2, l2, ch2, hr1, rt1⟩
 obtain ⟨h, fD, hP, low0, c0, hnu, Bl, Bo⟩ := uh HX
 have h2 := (h.still fD).call o2
 have o02 : Onx w sb b T w2 T2 sz A P2 false := o2.after fD
 have few2 := ch2.few
 have PUT2 := y_Put h2 ch2.st rt1 (fun p hp => by rcases putP_mem hp with rfl | hp; exact ⟨by decide, by decide⟩; cases hp) (putP_rise List.Pairwise.nil) (by simp [putP]) ⟨#[97]⟩ 1 (by decide) (by omega) (by omega) (by omega) (ch2.low low0)
 have cs2 : w2.cell? ⟨bs, 0, none⟩ = some (ptr sb) := o02.fr.cell' cs (uh HNT bs (by simp))
 have ch2' : w2.cell? ⟨bh, 0, none⟩ = some (ptr hb) := o02.fr.cell' ch (uh HNT bh (by simp))
 have HP2 := Hd PUT2
 have HX2 := Hd (ai h2 (ai o02 (ai ch2 (ai rt1 (ai Bl Bo)))))
 clear PUT2 h fD hP low0 c0 hnu h2 o02 o2 ch2 rt1 few2 l2 Bl Bo HX hr1 hk1
 refine hK.out _ _ ⟨cs2, ch2'⟩ (fun _ => ?_)
 clear hK K
 refine rdO 5 rfl (fun K hK => ?_)
 go_simp
 go_wp2_with fail
 refine (uh HP2).mono ?_
 clear HP2
 rintro e w3 ⟨r2, rfl, T3, P3, Q2, k2, hk2, o3, l3, ch3, hr2, rt2⟩
 rw [awL_is] at rt2
 obtain ⟨h2, o02, ch2, rt1, Bl, Bo⟩ := uh HX2
 have h3 := h2.call o3
 have o03 : Onx w sb b T w3 T3 sz A P3 false := o02.trans o3
 have nt3 : ∀ k, k = bs \/ k = bh \/ k = bl \/ k = bo -> ¬ tfoot sb b T3 k := fun k hk => o03.other (by rcases hk with rfl | rfl | rfl | rfl <;> assumption) (uh HNT k hk)
 have cs3 : w3.cell? ⟨bs, 0, none⟩ = some (ptr sb) := o03.fr.cell' cs (uh HNT bs (by simp))
 have ch3' : w3.cell? ⟨bh, 0, none⟩ = some (ptr hb) := o03.fr.cell' ch (uh HNT bh (by simp))
 have Bl3 := Bl.kept o03.fr (uh HNT bl (by simp)); have Bo3 := Bo.kept o03.fr (uh HNT bo (by simp))
 have riL : Rise awL := awL_is ▸ putP_rise (putP_rise List.Pairwise.nil)
 have pkL : Pok awL := fun p hp => by
  rcases List.mem_cons.1 hp with rfl | hp
  ·exact ⟨by decide, by decide⟩
  ·rw [List.mem_singleton.1 hp]; exact ⟨by decide, by decide⟩
 have RG := y_Range h3 rt2 riL pkL ⟨#[]⟩ ⟨#[]⟩ 9 (by omega) (by decide)
 rw [rgP_all (show ((awL.length : Nat) : Int) <= 9 by decide)] at RG
 have GT : ∀ w4, Fr (fun k => k = bl) w3 w4 -> Calls Tryz.prog 14 #[ptr sb, .int .u64 (r2 : Nat), .string ⟨#[98]⟩] w4 fun e w' => e = .returned (.tuple #[.int .u64 2, .bool true]) /\ St w4 w' := fun w4 f4 => by
  have := y_Get (h3.turn f4 (fun k hk => by rw [hk]; exact nt3 bl (by simp)) (fun e => ne.2.2.2.1 e) (fun e => ne.2.2.2.2 e)) rt2 riL ⟨#[98]⟩
  rw [awG_is] at this
  exact this
 have LN : ∀ w4, Fr (fun k => k = bl) w3 w4 -> Calls Tryz.prog 12 #[ptr sb, .int .u64 (r2 : Nat)] w4 fun e w' => e = .returned (.int .i64 2) /\ St w4 w' := fun w4 f4 => y_Len (h3.turn f4 (fun k hk => by rw [hk]; exact nt3 bl (by simp)) (fun e => ne.2.2.2.1 e) (fun e => ne.2.2.2.2 e)) rt2 (by decide)
 have HRG := Hd RG; have HGT := @Hd _ GT; have HLN := @Hd _ LN
 have HY := Hd (ai o03 (ai nt3 (ai Bl3 Bo3)))
 have lz := o03.fr.size
 have ht3 : ∀ k, tfoot sb b T3 k -> k < w3.heap.size := h3.st.lt
 have HT3 := @Hd _ ht3
 clear RG GT LN h2 o02 ch2 rt1 Bl Bo h3 o03 o3 ch3 rt2 nt3 Bl3 Bo3 riL pkL HX2 HNT l3 hr2 hk2 cs2 ch2' ht3
 refine hK.out _ _ ⟨cs3, ch3'⟩ (fun _ => ?_)
 clear hK K hHeld cs ch
 refine rdO 6 rfl (fun K hK => ?_)
 go_simp
 refine hK.out _ _ ⟨cs3, ch3'⟩ (fun _ => ?_)
 clear hK K
 refine wpAnyH_done (by kernel_rfl) ?_ _
 go_wp2_with fail
 refine (uh HRG).mono ?_
 clear HRG
 rintro e w4 ⟨v, rfl, rv, f4⟩
 obtain ⟨o03, nt3, Bl3, Bo3⟩ := uh HY
 have Bl4 := Bl3.kept f4 id
 have c4 := Bl4.c; have z4 := Bl4.z
 have HB4 := Hd (ai Bl4 rv); have HF4 := Hd f4
 obtain ⟨g, cap, ev⟩ : ∃ g cap, v = .slice (some ⟨g, 0, none⟩) 2 cap := by
  rcases rowp_form rv with ⟨_, h0⟩ | ⟨g, cap, e⟩
  ·exact absurd h0 (by decide)
  ·exact ⟨g, cap, e⟩
 obtain ⟨W5, hW5⟩ : ∃ W5, w4.setCell ⟨bl, 0, none⟩ v = W5 := ⟨_, rfl⟩
 have f5 : Fr (fun k => k = bl) w4 W5 := hW5 ▸ Fr.box w4 bl _
 have f35 : Fr (fun k => k = bl) w3 W5 := (f4.mono nE).trans' f5 (fun _ hk => .inl hk)
 have Bl5 : Box W5 bl v := hW5 ▸ Bl4.set _
 have cs5 : W5.cell? ⟨bs, 0, none⟩ = some (ptr sb) := f35.cell' cs3 ne.1
 have rv5 : W5.ownsRow w3.heap.size 43 2 v awL.length (pcl awL) := row_kept rv f5 (fun k hk e => by have := (rv.lt k hk).1; have := Bl3.lt; have e : k = bl := e; omega)
 have GT5 := uh HGT W5 f35
 have HX5 := Hd (ai o03 (ai nt3 (ai Bo3 (ai f35 (ai Bl5 rv5))))); have HW5 := Hd hW5; have HG5 := Hd GT5
 rw [<- hW5, ev] at cs5
 clear o03 nt3 Bl3 Bo3 Bl4 rv f4 GT5 f5 f35 Bl5 rv5 HB4 HF4 HY HGT hW5
 subst ev
 go_wp2_with fail
 rw [uh HW5]
 refine (uh HG5).mono ?_
 clear HG5
 rintro e w6 ⟨rfl, f6⟩
 obtain ⟨o03, nt3, Bo3, f35, Bl5, rv5⟩ := uh HX5
 have f36 : Fr (fun k => k = bl) w3 w6 := f35.trans' f6 nE
 have Bo6 : Box w6 bo v2 := Bo3.kept f36 (fun e => ne.2.2.1 e.symm)
 have Bl6 := Bl5.kept f6 id
 have cs6 : w6.cell? ⟨bs, 0, none⟩ = some (ptr sb) := f36.cell' cs3 ne.1
 have LN6 := uh HLN w6 f36
 have HL6 := Hd LN6; have HX6 := Hd (ai f36 (ai Bo6 (ai Bl6 (own_still rv5 f6))))
 clear o03 nt3 Bo3 f35 Bl5 rv5 f6 f36 Bo6 Bl6 LN6 HLN cs5 c4 z4
 go_wp2_with fail
 refine (uh HL6).mono ?_
 clear HL6
 rintro e w7 ⟨rfl, f7⟩
 obtain ⟨f36, Bo6, Bl6, rv6⟩ := uh HX6
 obtain ⟨o03, nt3, -⟩ := uh HX5
 have Bo7 := Bo6.kept f7 id
 have c7 := Bo7.c; have z7 := Bo7.z
 obtain ⟨W8, hW8⟩ : ∃ W8, w7.setCell ⟨bo, 0, none⟩ (.bool true) = W8 := ⟨_, rfl⟩
 have f8 : Fr (fun k => k = bo) w7 W8 := hW8 ▸ Fr.box w7 bo _
 have Bo8 : Box W8 bo (.bool true) := hW8 ▸ Bo7.set _
 have HE := Hd (show ∃ T' P' v, OnxX (fun k => k = bl \/ k = bo) w sb b T W8 T' sz A P' false /\ Box W8 bl v /\ Box W8 bo (.bool true) /\ W8.ownsRow w.heap.size 43 2 v 2 (pcl awL) /\ (∀ k, v.ownBlock = some k -> ¬ tfoot sb b T' k) /\ ¬ tfoot sb b T' bl /\ ¬ tfoot sb b T' bo from by
  have rv7 := own_still rv6 f7
  have lo3 : bo < w3.heap.size := Nat.lt_of_lt_of_le lbo lz
  refine ⟨T3, P3, _, (((OnxX.of o03).var (f36.trans' f7 nE) (fun k hk => .inl hk) (fun k hk => by rw [hk]; exact nt3 bl (by simp)))).var f8 (fun k hk => .inr hk) (fun k hk => by rw [hk]; exact nt3 bo (by simp)), (Bl6.kept f7 id).kept f8 (fun e => ne.2.2.1 e), Bo8, row_lo (row_kept rv7 f8 (fun k hk e => by have := (rv7.lt k hk).1; have e : k = bo := e; omega)) lz, fun k hk ht => by have := (rv7.lt k hk).1; have := uh HT3 k ht; omega, nt3 bl (by simp), nt3 bo (by simp)⟩)
 have HW8 := Hd hW8
 clear o03 nt3 f36 Bo6 Bl6 rv6 Bo7 hW8 f8 Bo8 f7 HX5 HX6
 go_wp2_with fail
 rw [uh HW8]
 go_end0
 exact ⟨rfl, uh HE⟩
end
end
def kyF (i : Nat) : Nat -> Nat := fun k => if k = 0 then 97 + i * 7 % 16 else if k = 1 then 97 + i * 5 % 26 else if k = 2 then 97 + i % 26 else 97 + i / 26
def kyB (i : Nat) : ByteArray := ⟨#[107]⟩ ++ strB (kyF i) 4
theorem kyB_size (i : Nat) : (kyB i).size = 5 := by
 unfold kyB
 rw [ByteArray.size_append, strB_size]; rfl
theorem kyF_lt (i : Nat) (hi : i < 200) (k : Nat) : kyF i k < 256 := by unfold kyF; split; omega; split; omega; split; omega; omega
theorem kyB_inj {i j : Nat} (hi : i < 200) (hj : j < 200) (e : kyB i = kyB j) : i = j := by
 have e1 : (kyB i).data.toList = (kyB j).data.toList := by rw [e]
 unfold kyB strB at e1
 simp only [ByteArray.data_append, Array.toList_append, strOfNums_data, rowL] at e1
 have e2 := List.append_cancel_left e1
 have e3 : ∀ k, k < 4 -> kyF i k = kyF j k := fun k hk => by
  have := congrArg (fun l => l[k]?) e2
  simp [hk] at this
  have h1 := kyF_lt i hi k
  have h2 := kyF_lt j hj k
  have h3 := congrArg UInt8.toNat this
  simp at h3
  omega
 have h2 := e3 2 (by omega)
 have h3 := e3 3 (by omega)
 simp [kyF] at h2 h3
 omega
set_option maxRecDepth 20000 in
theorem l11_key (i : Nat) (hi : i < 200) (w : World) : Calls Tryz.prog 9 #[.int .i64 (i : Nat)] w fun e w' => e = .returned (.string (kyB i)) /\ St w w' := by
 obtain ⟨W, hW⟩ : ∃ W, w.alloc (.cells #[.int .u8 (97 + (i : Int) * 7 % 16), .int .u8 (97 + (i : Int) * 5 % 26), .int .u8 (97 + (i : Int) % 26), .int .u8 (97 + (i : Int) / 26)] 5) = W := ⟨_, rfl⟩
 have o1 : W.heap[w.heap.size]? = some (.cells #[.int .u8 (97 + (i : Int) * 7 % 16), .int .u8 (97 + (i : Int) * 5 % 26), .int .u8 (97 + (i : Int) % 26), .int .u8 (97 + (i : Int) / 26)] 5 (0, 0)) := hW ▸ heap_alloc_new w _
 have hN : Nats .u8 W (some ⟨w.heap.size, 0, none⟩) 4 (kyF i) := fun k hk => by
  refine ⟨_, _, rfl, ?_⟩
  rcases (show k = 0 \/ k = 1 \/ k = 2 \/ k = 3 by omega) with rfl | rfl | rfl | rfl
  ·exact cOo o1 0
  ·exact cOo o1 1
  ·exact cOo o1 2
  ·exact cOo o1 3
 have cv := conv_str W (some ⟨w.heap.size, 0, none⟩) 4 4 (kyF i) hN
 have HF := Hd (show St w W from hW ▸ (Fr.refl _ w).alloc _)
 rw [<- hW] at cv
 have HW := Hd hW
 clear hW o1 hN
 go_enter Tryz.func9, Tryz.ntmps9
 go_wp2_with fail
 go_ret
 rw [uh HW]
 exact ⟨rfl, uh HF⟩

section
theorem sl_root (w W : World) (r : Nat) (hW : w.alloc (.cells #[.int .u64 (r : Nat), .slice none 0 0] 35) = W) : Sl W 2 (some ⟨w.heap.size, 0, none⟩) ([(r, Value.slice none 0 0)] : List (Nat × Value)).length 1 (rtcl [(r, .slice none 0 0)]) := by
 have o : W.heap[w.heap.size]? = some (.cells #[.int .u64 (r : Nat), .slice none 0 0] 35 (0, 0)) := hW ▸ heap_alloc_new w _
 exact ⟨rfl, Nat.le_refl _, (fun e => by cases e), (fun u hu => by
  simp only [rtcl, List.mem_cons, List.not_mem_nil, or_false] at hu
  rcases hu with rfl | rfl <;> rfl), (fun j u hu => ⟨w.heap.size, 0, rfl, by
  rw [Nat.zero_add, cOo o j, <- hu]
  simp [rtcl]⟩), (fun x e => by cases e; rfl)⟩
def PutS (nu sz : Nat) (V : Nat -> Prop) (w : World) (sb b : Nat) (T : Tay) (A : Ab) (br : Nat) (L' : List Pr) (w' : World) : Prop :=
 ∃ T' P' r' Q', OnxX V w sb b T w' T' sz A P' false /\ Box w' br (.int .u64 ((r' : Nat) : Int)) /\ r' ≠ 0 /\ Tre nu sz (says P' A) r' L' Q'
section
variable {nu sz : Nat} {w w' w0 : World} {hb sb b bs bh br bi : Nat} {T : Tay} {A : Ab} {P : List (Int × Int)} {r i : Nat} {L : List Pr} {Q : List Nat}
end
end
set_option maxRecDepth 100000 in
theorem ins_nil (w : World) : Calls Tryz.prog 166 #[.slice none 0 0, .int .i64 0, .int .i64 0] w fun e w' => e = .returned (.tuple #[]) /\ w' = w := by
 go_enter Tryz.func166, Tryz.ntmps166
 go_wp2_with fail
 go_loopw [6] (fun c wr => c = .int .i64 1 /\ wr = w) (fun c wr => 0)
 case atStart => exact ⟨rfl, rfl⟩
 case round =>
  obtain ⟨rfl, rfl⟩ := hrel
  go_wp2
  go_end0
  exact ⟨rfl, rfl⟩
set_option maxRecDepth 100000 in
theorem pdq_nil (x : Int) (w : World) : Calls Tryz.prog 137 #[.slice none 0 0, .int .i64 0, .int .i64 0, .int .i64 x] w fun e w' => e = .returned (.tuple #[]) /\ w' = w := by
 have K := ins_nil w
 go_enter Tryz.func137, Tryz.ntmps137
 go_wp2_with fail
 go_loopw [1, 2] (fun b c wr => b = .int .i64 0 /\ c = .int .i64 0 /\ wr = w) (fun b c wr => 0)
 case atStart => exact ⟨rfl, rfl, rfl⟩
 case round =>
  obtain ⟨rfl, rfl, rfl⟩ := hrel
  go_wp2_with fail
  refine K.mono ?_
  rintro e w' ⟨rfl, rfl⟩
  go_wp2
  refine bodyPost_ret (results_none rfl _ _ _) rfl ?_
  exact ⟨rfl, rfl⟩
theorem sort_nil (w : World) : Calls Tryz.prog 84 #[.slice none 0 0] w fun e w' => e = .returned (.tuple #[]) /\ w' = w := by
 have K1 := Tryz.bits_Len 0 w (by omega) (by omega)
 have K2 := fun x => pdq_nil x w
 go_enter Tryz.func84, Tryz.ntmps84
 go_wp2_with fail
 refine K1.mono ?_
 rintro e w' ⟨rfl, rfl⟩
 go_wp2_with fail
 refine (K2 _).mono ?_
 rintro e w' ⟨rfl, rfl⟩
 go_wp2
 go_end0
 exact ⟨rfl, rfl⟩
set_option maxRecDepth 100000 in
theorem y_Pieces0 (sb hb : Nat) (w : World) : Calls Tryz.prog 35 #[ptr sb, ptr hb, .int .u64 0] w fun e w' => e = .returned (.slice none 0 0) /\ St w w' := by
 obtain ⟨g, hg⟩ : ∃ g, w.heap.size = g := ⟨_, rfl⟩
 obtain ⟨W1, hW1⟩ : ∃ W, w.alloc (.cells #[ptr sb] 23) = W := ⟨_, rfl⟩
 obtain ⟨W2, hW2⟩ : ∃ W, W1.alloc (.cells #[ptr hb] 24) = W := ⟨_, rfl⟩
 obtain ⟨W3, hW3⟩ : ∃ W, W2.alloc (.map #[] 0) = W := ⟨_, rfl⟩
 obtain ⟨W4, hW4⟩ : ∃ W, W3.alloc (.cells #[.map (some (g + 2))] 139) = W := ⟨_, rfl⟩
 obtain ⟨W5, hW5⟩ : ∃ W, W4.alloc (.cells #[.slice none 0 0] 45) = W := ⟨_, rfl⟩
 obtain ⟨W6, hW6⟩ : ∃ W, W5.alloc (.cells #[.func (.func 80) #[] #[ptr g, ptr (g + 3), ptr (g + 1), ptr (g + 4), ptr (g + 5)]] 140) = W := ⟨_, rfl⟩
 have z1 : W1.heap.size = g + 1 := by rw [<- hW1]; simp [hg]
 have z2 : W2.heap.size = g + 2 := by rw [<- hW2]; simp; omega
 have z3 : W3.heap.size = g + 3 := by rw [<- hW3]; simp; omega
 have z4 : W4.heap.size = g + 4 := by rw [<- hW4]; simp; omega
 have f4 : St w W4 := hW4 ▸ hW3 ▸ hW2 ▸ hW1 ▸ ((((Fr.refl _ w).alloc _).alloc _).alloc _).alloc _
 have f5 : St W4 W5 := hW5 ▸ (Fr.refl _ _).alloc _
 have f6 : St W5 W6 := hW6 ▸ (Fr.refl _ _).alloc _
 have oL : W6.heap[g + 4]? = some (.cells #[.slice none 0 0] 45 (0, 0)) := by
  have := heap_alloc_new W4 (.cells #[.slice none 0 0] 45)
  rw [hW5, z4] at this; exact f6.obj this id
 have c6 : W6.cell? ⟨g + 4, 0, none⟩ = some (.slice none 0 0) := cOo oL 0
 have K := sort_nil W6
 have hmm := make_setU
 have HW := Hd (ai hW1 (ai hW2 (ai hW3 (ai hW4 (ai hW5 hW6)))))
 have HF := Hd ((f4.trans' f5 nE).trans' f6 nE)
 have c6' := c6
 rw [<- hW6, <- hW5, <- hW4, <- hW3, <- hW2, <- hW1] at c6'
 clear hW1 hW2 hW3 hW4 hW5 hW6 z1 z2 z3 z4 f4 f5 f6 oL
 go_enter Tryz.func35, Tryz.ntmps35
 go_wp2_with fail
 simp only [show g + 1 + 1 = g + 2 from rfl, show g + 2 + 1 = g + 3 from rfl, show g + 3 + 1 = g + 4 from rfl, show g + 4 + 1 = g + 5 from rfl]
 obtain ⟨hW1, hW2, hW3, hW4, hW5, hW6⟩ := uh HW
 rw [hW1, hW2, hW3, hW4, hW5, hW6]
 clear hW1 hW2 hW3 hW4 hW5 hW6 HW hmm
 refine K.mono ?_
 rintro e w' ⟨rfl, hh⟩
 replace hh := hh.symm
 subst hh
 clear K c6'
 go_wp2
 go_ret
 exact ⟨rfl, uh HF⟩

section
section
variable {nu sz : Nat} {w w' w0 : World} {hb sb b : Nat} {T : Tay} {A : Ab} {P : List (Int × Int)}
theorem y_PiecesR (hp : Hp nu sz w hb sb b T A P) (s : HpS nu (says P A)) {r : Nat} {l : List Pr} {Q : List Nat} (rt : Rt nu sz (says P A) r l Q) (ri : Rise l) (hl : l.length <= 400) :
  Calls Tryz.prog 35 #[ptr sb, ptr hb, .int .u64 (r : Nat)] w fun e w' => ∃ (a : Option Addr) (cap : Nat) (ts : List Int), e = .returned (.slice a ts.length cap) /\ (∀ x, x ∈ ts ↔ ∃ v ∈ Q, x = ((fi nu + 8 * v : Nat) : Int)) /\ ts.length = Q.length /\ w'.ownsRow w.heap.size 3 1 (.slice a ts.length cap) ts.length (ts.map (Value.int .i64)) /\ St w w' := by
 rcases rt with ⟨rfl, rfl, rfl⟩ | ⟨h, u, rfl, t⟩
 ·refine (y_Pieces0 sb hb w).mono ?_
  rintro e w' ⟨rfl, f⟩
  exact ⟨none, 0, [], rfl, fun x => by simp, rfl, World.ownsRow_nil _ _ _ _, f⟩
 ·refine (y_Pieces hp s t ri hl).mono ?_
  rintro e w' ⟨g, cap, ts, rfl, h1, h2, h3, h4⟩
  exact ⟨_, cap, ts, rfl, h1, h2, h3, h4⟩
structure RqR (nu sz : Nat) (f : Nat -> Int) (r : Nat) (Q : List Nat) : Prop where
 t : ∃ l, Rt nu sz f r l Q /\ Rise l /\ l.length <= 400
set_option maxRecDepth 100000 in
theorem t_sweepR (hp : Hp nu sz w hb sb b T A P) (s : HpS nu (says P A)) (a : Option Addr) (c : Nat) (rs : List (Nat × Value)) (Qs : List (List Nat)) (hS : Sl w 2 a rs.length c (rtcl rs)) (hq : Qs.length = rs.length) (hr : ∀ (i : Nat) (p : Nat × Value) (Q : List Nat), rs[i]? = some p -> Qs[i]? = some Q -> RqR nu sz (says P A) p.1 Q) (hn : rs.length <= 5) (hm : P.length + 10 * cnt nu (ask nu (says P A)) + 10 <= 6144) :
  Calls Tryz.prog 10 #[ptr sb, ptr hb, .slice a rs.length c] w fun e w' => e = .returned (.tuple #[]) /\ ∃ g, To sz w sb b T A w' g (P.length + 10 * cnt nu (ask nu (says P A))) /\ HpS nu g /\ (∀ u, ask nu g u = if u ∈ Qs.flatten then ask nu (says P A) u else 0) /\ (∀ i, fi nu <= i -> g i = says P A i) /\ ∀ i, 2 <= i -> i < 18 -> g i = says P A i := by
 obtain ⟨bl, hbl⟩ : ∃ bl, w.heap.size = bl := ⟨_, rfl⟩
 obtain ⟨W, hW⟩ : ∃ W, w.alloc (.cells #[.slice none 0 0] 45) = W := ⟨_, rfl⟩
 have fW : St w W := hW ▸ (Fr.refl _ w).alloc _
 have oW : W.heap[bl]? = some (.cells #[.slice none 0 0] 45 (0, 0)) := by rw [<- hbl, <- hW]; exact heap_alloc_new w _
 have HW := Hd hW
 have HH := Hd (ai hp (ai s (ai hS (ai hq (ai hr hm)))))
 have HF := Hd fW
 clear hW hp s hS hq hr hm fW
 go_enter Tryz.func10, Tryz.ntmps10
 go_wp2_with fail
 rw [uh HW]
 go_loopw [7] (fun iv wr => ∃ (j : Nat) (ts : List Int) (v : Value), j <= rs.length /\ iv = .int .i64 j /\ ts.length <= 800 * j /\ Liv nu ts (Qs.take j).flatten /\ wr.heap[bl]? = some (.cells #[v] 45 (0, 0)) /\ wr.ownsRow (bl + 1) 3 1 v ts.length (ts.map (Value.int .i64)) /\ St w wr) (fun iv _ => rs.length - (intOf iv).toNat)
 case atStart => exact ⟨0, [], _, by omega, rfl, by simp, fun x => by simp, oW, World.ownsRow_nil _ _ _ _, uh HF⟩
 case round =>
  obtain ⟨j, ts, v, hj, rfl, htl, liv, ov, row, fr⟩ := hrel
  generalize wr = wq at *
  clear wr
  by_cases hlt : j < rs.length
  ·have hlt' : (j : Int) < rs.length := by omega
   obtain ⟨p, hp1⟩ : ∃ p, rs[j]? = some p := ⟨_, List.getElem?_eq_getElem hlt⟩
   obtain ⟨hp, s, hS, hq, hr, hm⟩ := uh HH
   obtain ⟨Q, hQ⟩ : ∃ Q, Qs[j]? = some Q := ⟨_, List.getElem?_eq_getElem (by omega)⟩
   obtain ⟨l, rt, ri, hl⟩ := (hr j p Q hp1 hQ).t
   obtain ⟨b0, o0, rfl, cR0⟩ := hS.cells (j * 2) _ (rtcl_at hp1)
   have hb0 : b0 < bl := by rw [<- hbl]; exact World.block_lt_of_cell? _ _ cR0
   have cR := fr.cell' cR0 id
   have cv : wq.cell? ⟨bl, 0, none⟩ = some v := cOo ov 0
   have zv : wq.frozen? ⟨bl, 0, none⟩ = false := by simp [World.frozen?, ov]
   have few := rt.few
   have PC : ∀ w', St wq w' -> Calls Tryz.prog 35 #[ptr sb, ptr hb, .int .u64 (p.1 : Nat)] w' _ := fun w' f' => by
    exact y_PiecesR ((hp.still fr).still f') s rt ri hl
   have HPC := @Hd _ PC
   have ltb : bl < wq.heap.size := World.block_lt_of_cell? _ _ cv
   have HQ := @Hd _ (fun (w2 : World) (gg : Option Addr) (cap : Nat) (ts2 : List Int) (f2 : St wq w2) (h2 : ∀ x, x ∈ ts2 ↔ ∃ v ∈ Q, x = ((fi nu + 8 * v : Nat) : Int)) (h2l : ts2.length = Q.length) (h2r : w2.ownsRow wq.drew.heap.size 3 1 (.slice gg ts2.length cap) ts2.length (ts2.map (Value.int .i64))) => show ∃ v3 w3, (Builtin.append_ #[45, 45] 45 #[v, .slice gg ts2.length cap]).run Tryz.prog w2 = .ok v3 w3 /\ ∃ va3 vc3, v3 = .slice va3 (ts.length + ts2.length) vc3 /\ w3.cell? ⟨bl, 0, none⟩ = some v /\ w3.frozen? ⟨bl, 0, none⟩ = false /\ w3.cell? ⟨b0, o0 + j * 2, none⟩ = some (.int .u64 (p.1 : Nat)) /\ (w3.setCell ⟨bl, 0, none⟩ v3).cell? ⟨b0, o0 + j * 2, none⟩ = some (.int .u64 (p.1 : Nat)) /\ ((ts ++ ts2).length <= 800 * (j + 1) /\ Liv nu (ts ++ ts2) (Qs.take (j + 1)).flatten /\ (w3.setCell ⟨bl, 0, none⟩ v3).heap[bl]? = some (.cells #[v3] 45 (0, 0)) /\ (w3.setCell ⟨bl, 0, none⟩ v3).ownsRow (bl + 1) 3 1 v3 (ts ++ ts2).length ((ts ++ ts2).map (Value.int .i64)) /\ St w (w3.setCell ⟨bl, 0, none⟩ v3)) from by
    have row2 := own_still row f2
    obtain ⟨v3, w3, hap, hw3, hgr, hloc⟩ := run_more elt_I 45 row2 (sl_of_row h2r (int_one ts2)) (by omega) (by have := f2.size; omega)
    obtain ⟨va3, vc3, e3⟩ := rows_form hw3
    have f3 : Fr (fun k => v.ownBlock = some k) w2 w3 := (Fr.refl _ w2).grown hgr (fun k hk => .inl hk)
    have nbl : v.ownBlock ≠ some bl := fun e => by have := (row.lt _ e).1; omega
    have nb0 : v.ownBlock ≠ some b0 := fun e => by have := (row.lt _ e).1; omega
    have ov3 := f3.obj (f2.obj ov id) nbl
    have cR3 := f3.cell' (f2.cell' cR id) nb0
    have fs : Fr (fun k => k = bl) w3 (w3.setCell ⟨bl, 0, none⟩ v3) := (Fr.refl (fun k => k = bl) w3).setCell (.inl rfl) _
    refine ⟨v3, w3, hap, va3, vc3, e3, cOo ov3 0, by simp [World.frozen?, ov3], cR3, fs.cell' cR3 (show b0 ≠ bl by omega), by rw [List.length_append]; omega, fun x => ?_, heap_setCell_same w3 bl 0 _ _ v3 ov3, ?_, ?_⟩
    ·rw [List.mem_append, liv, h2, List.take_add_one, hQ]
     simp only [Option.toList_some, List.flatten_append, List.flatten_cons, List.flatten_nil, List.append_nil, List.mem_append]
     constructor
     ·rintro (⟨y, h1, h2⟩ | ⟨y, h1, h2⟩)
      ·exact ⟨y, .inl h1, h2⟩
      ·exact ⟨y, .inr h1, h2⟩
     ·rintro ⟨y, h1 | h1, h2⟩
      ·exact .inl ⟨y, h1, h2⟩
      ·exact .inr ⟨y, h1, h2⟩
    ·rw [List.length_append, List.map_append]
     exact ownsRow_setCell_other hw3 (fun e => by have := (hw3.lt _ e).1; have e2 : bl + 1 <= bl := this; omega) _
    ·refine (((fr.trans' f2 nE).trans' f3 (fun k hk => .inr (by have := (row.lt k hk).1; omega)))).trans' fs (fun k hk => .inr (by rw [hk, <- hbl]; exact Nat.le_refl _)))
   have q0 : j * 2 = j * 2 := rfl
   have fD : St wq wq.drew := (Fr.refl _ wq).drewN 1
   have cvd : wq.drew.cell? ⟨bl, 0, none⟩ = some v := cv
   have hj5 : j <= 5 := by omega
   clear PC hp s hS hq hr hm rt ri hl row liv htl few zv hp1 hQ fr ov cR0 q0
   generalize hnn : rs.length = n at *
   go_wp2_with fail
   refine wp_region_held_drew (S := fun w' => w'.cell? ⟨b0, o0 + j * 2, none⟩ = some (.int .u64 (p.1 : Nat))) (by kernel_rfl) cR (fun hHeld => ?_)
   refine tkO 1 ?_ hHeld rfl ?_ ?_
   rotate_left
   ·intro w q;go_simp;try with_reducible rfl
   simp only [apt, List.set]
   refine tkO 2 ?_ hHeld rfl ?_ ?_
   rotate_left
   ·intro w q;go_simp;try with_reducible rfl
   simp only [apt, List.set]
   refine tkO 3 ?_ hHeld rfl ?_ ?_
   rotate_left
   ·intro w q;go_simp;try with_reducible rfl
   simp only [apt, List.set]
   refine tkO 4 ?_ hHeld rfl ?_ ?_
   rotate_left
   ·intro w q;go_simp;try with_reducible rfl
   simp only [apt, List.set]
   refine tkO 5 (.pointer (some ⟨b0, o0 + j * 2, none⟩)) hHeld rfl ?_ ?_
   ·(intro w q; go_simp; (try with_reducible rfl))
   simp only [apt, List.set]
   refine tkO 6 ?_ hHeld rfl ?_ ?_
   rotate_left
   ·intro w q;go_simp;try with_reducible rfl
   simp only [apt, List.set]
   refine tkO 7 (.int .u64 (p.1 : Nat)) hHeld rfl ?_ ?_
   ·intro w q;go_simp;try with_reducible rfl
   simp only [apt, List.set]
   clear hHeld
   refine wpAnyH_ready (rs := [0, 8]) (by kernel_rfl) (by simp) ?_
   refine AllReadyH.cons rfl (fun K hK => ?_) (AllReadyH.cons rfl (fun K hK => ?_) AllReadyH.nil)
   ·go_simp
    refine hK.out _ _ cR (fun _ => ?_)
    clear hK K
    refine rdO 8 rfl (fun K hK => ?_)
    go_simp
    go_wp2_with fail
    refine (uh HPC _ fD).mono ?_
    rintro e w2 ⟨gg, cap, ts2, rfl, h2, h2l, h2r, f2d⟩
    have H2L := Hd h2l
    clear h2l
    have f2 : St wq w2 := fD.trans' f2d nE
    have cv2 := f2.cell' cv id
    refine hK.out _ _ (f2.cell' cR id) (fun _ => ?_)
    clear hK K
    obtain ⟨v3, w3, hap, FX⟩ := uh HQ w2 gg cap ts2 f2 h2 (uh H2L) h2r
    refine rdO 9 rfl (fun K hK => ?_)
    refine stp_append rfl (.tmp 14) (.tmp 22) 45 rfl _ _ rfl rfl v3 w3 hap ?_
    obtain ⟨va3, vc3, rfl, y1, y2, y3, y4, y5⟩ := FX
    refine hK.out _ _ y3 (fun _ => ?_)
    clear hK K
    simp only [Act.put, List.setIfInBounds_toArray]
    refine rdO 10 rfl (fun K hK => ?_)
    go_simp
    refine hK.out _ _ y4 (fun _ => ?_)
    clear hK K
    refine wpAnyH_done (by kernel_rfl) ?_ _
    have HY := Hd y5
    clear y5 y1 y2 y3 y4 hap
    go_wp2_with fail
    obtain ⟨q1, q2, q3, q4, q5⟩ := uh HY
    exact ⟨⟨j + 1, ts ++ ts2, _, by omega, by simp, q1, q2, q3, q4, q5⟩, by simp [intOf]; omega⟩
   ·go_simp
    go_wp2_with fail
    refine (uh HPC _ fD).mono ?_
    rintro e w2 ⟨gg, cap, ts2, rfl, h2, h2l, h2r, f2d⟩
    have H2L := Hd h2l
    clear h2l
    have f2 : St wq w2 := fD.trans' f2d nE
    have cv2 := f2.cell' cv id
    refine hK.out _ _ (f2.cell' cR id) (fun _ => ?_)
    clear hK K
    refine rdO 0 rfl (fun K hK => ?_)
    go_simp
    refine hK.out _ _ (f2.cell' cR id) (fun _ => ?_)
    clear hK K
    obtain ⟨v3, w3, hap, FX⟩ := uh HQ w2 gg cap ts2 f2 h2 (uh H2L) h2r
    refine rdO 9 rfl (fun K hK => ?_)
    refine stp_append rfl (.tmp 14) (.tmp 22) 45 rfl _ _ rfl rfl v3 w3 hap ?_
    obtain ⟨va3, vc3, rfl, y1, y2, y3, y4, y5⟩ := FX
    refine hK.out _ _ y3 (fun _ => ?_)
    clear hK K
    simp only [Act.put, List.setIfInBounds_toArray]
    refine rdO 10 rfl (fun K hK => ?_)
    go_simp
    refine hK.out _ _ y4 (fun _ => ?_)
    clear hK K
    refine wpAnyH_done (by kernel_rfl) ?_ _
    have HY := Hd y5
    clear y5 y1 y2 y3 y4 hap
    go_wp2_with fail
    obtain ⟨q1, q2, q3, q4, q5⟩ := uh HY
    exact ⟨⟨j + 1, ts ++ ts2, _, by omega, by simp, q1, q2, q3, q4, q5⟩, by simp [intOf]; omega⟩
  ·have e : j = rs.length := by omega
   subst e
   have hlt' : ¬ (rs.length : Int) < rs.length := by omega
   obtain ⟨hp, s, hS, hq, hr, hm⟩ := uh HH
   have htk : Qs.take rs.length = Qs := by rw [<- hq, List.take_length]
   rw [htk] at liv
   obtain ⟨va, vc, rfl⟩ := rows_form row
   have SL := sl_of_row row (int_one ts)
   have cv : wq.cell? ⟨bl, 0, none⟩ = some (.slice va ts.length vc) := cOo ov 0
   have SW := h_sweep (bl := bl) (hp.still fr) s (fun u => decide (u ∈ Qs.flatten)) hm (fun w' f' u hu => by
    refine (t_keep bl va vc ts w' (f'.cell' cv id) (SL.still f') (by omega) ((fi nu : Int) + (u : Int) * 8)).mono ?_
    rintro e w'' ⟨rfl, rfl⟩
    refine ⟨?_, ⟨0, rfl⟩⟩
    have hiff : ((fi nu : Int) + (u : Int) * 8) ∈ ts ↔ u ∈ Qs.flatten := by
     rw [liv]
     exact ⟨fun ⟨y, h1, h2⟩ => by
      have : y = u := by omega
      exact this ▸ h1, fun h => ⟨u, h, by omega⟩⟩
    rw [decide_eq_decide.2 hiff])
   have HSW := Hd SW
   have HL := Hd (ai fr hp)
   have HS0 := Hd s
   clear SW SL cv row ov liv hp s hS hq hr hm fr
   generalize rs.length = n at *
   go_wp2_with fail
   refine (uh HSW).mono ?_
   rintro e w5 ⟨k, rfl, hk, g, tg, sg, ak, ke, ro⟩
   go_wp2_with fail
   go_end0
   obtain ⟨fr, hp⟩ := uh HL
   refine ⟨rfl, g, (tg.after fr).le ?_, sg, fun u => ?_, ke, ro⟩
   ·have h1 := gone_len (fun u => decide (u ∈ Qs.flatten)) (plU (ask nu (says P A)) nu)
    have h2 : (plU (ask nu (says P A)) nu).length = cnt nu (ask nu (says P A)) := by rw [plU_len]; rfl
    omega
   ·rw [ak]
    by_cases hu : u ∈ Qs.flatten
    ·rw [if_pos hu, if_neg (fun hm => by
      have := (List.mem_filter.1 hm).2
      simp [hu] at this)]
    ·rw [if_neg hu]
     by_cases h0 : ask nu (says P A) u = 0
     ·split
      ·rfl
      ·exact h0
     ·have hin : u ∈ goneU (fun u => decide (u ∈ Qs.flatten)) (plU (ask nu (says P A)) nu) := List.mem_filter.2 ⟨plU_mem.2 ⟨((uh HS0).inv.asks u h0).1, h0⟩, by simp only [decide_eq_false hu]; rfl⟩
      rw [if_pos hin]
end
end
end Go.Proofs.YtbpndmghlnadiaaGreatDoor
