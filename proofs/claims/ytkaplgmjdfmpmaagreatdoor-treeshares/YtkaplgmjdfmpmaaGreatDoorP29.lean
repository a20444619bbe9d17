/- Joined: Vb Zi Vc. -/
import Derived.Test.YtkaplgmjdfmpmaaGreatDoorP20
import Derived.Test.YtkaplgmjdfmpmaaGreatDoorP26
import Derived.Test.YtkaplgmjdfmpmaaGreatDoorP28
namespace Go.Proofs.YtkaplgmjdfmpmaaGreatDoor
open Go.RowKit

section
def IterG (P : Program) (gf : Nat) (lb : Array Value) (enc : Nat → Array Value) (N l : Nat) (S : Nat → Prop) (Rd : World → Prop) : Prop :=
  ∀ (J' : Nat → (Nat → Prop) → World → Prop) (Jx : World → Prop) (Jp : List PanicEntry → World → Prop),
    (∀ k G O W W', J' k G W → Fr O W W' → (∀ b, O b → ¬ G b) → J' k G W') → (∀ k G W, J' k G W → ∀ b, G b → b < W.heap.size) →
    (∀ k G W, k < N → J' k G W → YieldAt Fence.wide (0 - 1) P l (enc k) W fun e W' => (e = .returned (.bool true) ∧ ∃ G', J' (k + 1) G' W' ∧ Fr G W W' ∧ (∀ b, G b → G' b) ∧ ∀ b, G' b → G b ∨ W.heap.size ≤ b) ∨ (e = .returned (.bool false) ∧ Jx W' ∧ Fr G W W') ∨ ∃ ch, e = .panicked ch ∧ Jp ch W') →
    ∀ G W, Rd W → J' 0 G W → (∀ b, G b → b < W.heap.size ∧ ¬ S b) → CallsIn Fence.wide 0 P gf (#[.func (.yield l) #[] #[]] ++ lb) W fun e W' => (∃ v, e = .returned v ∧ Fr G W W' ∧ ∃ G', J' N G' W') ∨ (∃ v, e = .returned v ∧ Fr G W W' ∧ Jx W') ∨ ∃ ch, e = .panicked ch ∧ Jp ch W'

def bodyEndsG (D : Nat) (G : Nat → Prop) (V : World) (J : (Nat → Prop) → World → Prop) (Jr : Code → World → Prop) (Jp : List PanicEntry → World → Prop) (W : World) : Exit → Act → World → Prop
  | .normal, _, W' => (W'.heap[D]? = W.heap[D]? ∧ W'.heap[D + 1]? = W.heap[D + 1]?) ∧ ∃ G', J G' W' ∧ Fr (fun b => G b ∨ pair D b) V W' ∧ (∀ b, G b → G' b) ∧ ∀ b, G' b → G b ∨ V.heap.size ≤ b
  | .ret, _, W' => (W'.heap[D]? = W.heap[D]? ∧ W'.heap[D + 1]? = W.heap[D + 1]?) ∧ Jr .ret W' ∧ Fr (fun b => G b ∨ pair D b) V W'
  | .exit id, _, W' => (W'.heap[D]? = W.heap[D]? ∧ W'.heap[D + 1]? = W.heap[D + 1]?) ∧ Jr (.exit id) W' ∧ Fr (fun b => G b ∨ pair D b) V W'
  | .panic ch, a, W' => a.defers = [] ∧ W'.heap[D]? = W.heap[D]? ∧ Jp ch W'
  | _, _, _ => False

theorem range_okG {P : Program} {f : FuncId} {g : Operand} {ps : Array Tmp} {assign body : Code} {Q : Exit → Act → World → Prop} {a : Act} {w : World}
    {gf : Nat} {lb : Array Value} (hg : a.eval g = .func (.func gf) #[] lb) (eg : ∀ args w, (callFunc gf args).run P w = .ok (.enter gf args) w) (hfn : ∃ fn, P.funcs[f]? = some fn)
    {N : Nat} {enc : Nat → Array Value} (hps : ∀ k, (enc k).size = ps.size) (S : Nat → Prop) (Rd : World → Prop) (G0 : Nat → Prop) (J : Nat → (Nat → Prop) → World → Prop) (JA : Nat → (Nat → Prop) → World → Act → World → Prop) (Jr : Code → World → Prop) (Jp : List PanicEntry → World → Prop)
    (hJ : ∀ k G W W', J k G W → Fr (pair w.heap.size) W W' → J k G W') (hJb : ∀ k G W, J k G W → ∀ b, G b → b < W.heap.size) (hJO : ∀ k G O W W', J k G W → Fr O W W' → (∀ b, O b → ¬ (G b ∨ pair w.heap.size b)) → J k G W') (hJA : ∀ k G V a W W', JA k G V a W → Fr (pair w.heap.size) W W' → JA k G V a W') (hJr : ∀ c W W', Jr c W → Fr (pair w.heap.size) W W' → Jr c W')
    (hseq : IterG P gf lb enc N (w.heap.size + 1) S Rd) (h0 : ∀ o1 o2, J 0 G0 ((w.alloc o1).alloc o2) ∧ Rd ((w.alloc o1).alloc o2)) (hG0 : ∀ b, G0 b → b < w.heap.size ∧ ¬ S b) (hS : ∀ b, S b → b < w.heap.size)
    (hassign : ∀ (l k : Nat) (G : Nat → Prop) (W : World) (K : Act → World → Prop), J k G W → k < N → (∀ a' W', JA k G W a' W' → W'.heap[w.heap.size]? = W.heap[w.heap.size]? → W'.heap[w.heap.size + 1]? = W.heap[w.heap.size + 1]? → K a' W') →
      assign.wpIn (Fence.wide.inRound l) 0 P (Exit.then K (fun _ _ _ => False)) { tmps := (ps.zip (enc k)).foldl (fun t (p, v) => t.setIfInBounds p v) a.tmps, defers := [] } W)
    (hbody : ∀ (l k : Nat) (G : Nat → Prop) (V : World) (a' : Act) (W : World), JA k G V a' W → k < N → body.wpIn (Fence.wide.inRound l) 0 P (bodyEndsG w.heap.size G V (J (k + 1)) Jr Jp W) a' W)
    (hdone : ∀ (G : Nat → Prop) (W : World), J N G W → Fr G0 w W → W.heap[w.heap.size]? = some (.deferred (some [])) → Q .normal { a with defers := { target := .collected w.heap.size, args := #[] } :: a.defers } W)
    (hret : ∀ (c : Code) (W : World), Jr c W → Fr G0 w W → W.heap[w.heap.size]? = some (.deferred (some [])) → c.wpIn Fence.wide 0 P Q { a with defers := { target := .collected w.heap.size, args := #[] } :: a.defers } W)
    (hpan : ∀ (ch : List PanicEntry) (W : World), Jp ch W → W.heap[w.heap.size]? = some (.deferred (some [])) → Q (.panic ch) { a with defers := { target := .collected w.heap.size, args := #[] } :: a.defers } W) :
    wpOf P f (Code.rangeFunc g ps assign body) Q a w := by
  obtain ⟨rec, hrec⟩ : ∃ rec : LoopState → Option Code → Loop, rec = fun st pe => { state := st, pending := pe, fn := f, tmps := a.tmps, params := ps, assign, body, defers := w.heap.size } := ⟨_, rfl⟩
  obtain ⟨W1, hW1⟩ : ∃ W1, (w.alloc (.deferred (some []))).alloc (.loop (rec .ready none)) = W1 := ⟨_, rfl⟩
  have hL1 : W1.heap[w.heap.size + 1]? = some (.loop (rec .ready none)) := by
    rw [← hW1]; have := World.alloc_heap_new (w.alloc (.deferred (some []))) (.loop (rec .ready none)); rwa [World.size_alloc] at this
  have hK1 : W1.heap[w.heap.size]? = some (.deferred (some [])) := by
    rw [← hW1]; exact (Below.heap_alloc _ _ _ (by simp)).trans (World.alloc_heap_new w _)
  have put : ∀ (W : World) (o : Obj), Fr (pair w.heap.size) W (W.putObj (w.heap.size + 1) o) := fun W o => (Fr.refl _ W).putObj (.inl (.inr rfl)) o
  refine wpOf_range (l := w.heap.size + 1) (mark := [{ target := .collected w.heap.size, args := #[] }]) (w₁ := W1) (w₁' := W1) (w₂ := W1) (d := { target := .fn (.func gf) lb, args := #[.func (.yield (w.heap.size + 1)) #[] #[]] })
    (gf := gf) (args := #[.func (.yield (w.heap.size + 1)) #[] #[]] ++ lb) ?_ ?_ ?_ ?_
  · rw [← hW1, hrec]; exact run_enterLoop_outer _ _ _ _ _
  · simp only [resolve, hg]
    simp [go_sem]
  · simp [invoke, go_sem, eg]
  · refine (hseq
      (fun k H W => (∃ G, (∀ b, H b ↔ G b ∨ pair w.heap.size b) ∧ J k G W) ∧ W.heap[w.heap.size + 1]? = some (.loop (rec .ready none)) ∧ W.heap[w.heap.size]? = some (.deferred (some [])))
      (fun W => ∃ c, Jr c W ∧ W.heap[w.heap.size + 1]? = some (.loop (rec .done (some c))) ∧ W.heap[w.heap.size]? = some (.deferred (some [])))
      (fun ch W => Jp ch W ∧ W.heap[w.heap.size]? = some (.deferred (some [])))
      ?_ ?_ ?_ (fun b => G0 b ∨ pair w.heap.size b) W1 (by rw [← hW1]; exact (h0 _ _).2) ⟨⟨G0, fun _ => Iff.rfl, by rw [← hW1]; exact (h0 _ _).1⟩, hL1, hK1⟩ ?_).mono ?_
    · rintro k H O W W' ⟨⟨G, hH, hj⟩, hl, hd⟩ fr ho
      have hlt : w.heap.size + 1 < W.heap.size := (Array.getElem?_eq_some_iff.1 hl).1
      refine ⟨⟨G, hH, hJO k G O W W' hj fr fun b hb h => ho b hb ((hH b).2 h)⟩, (fr.block _ hlt fun h => ho _ h ((hH _).2 (.inr (.inr rfl)))).trans hl, (fr.block _ (by omega) fun h => ho _ h ((hH _).2 (.inr (.inl rfl)))).trans hd⟩
    · rintro k H W ⟨⟨G, hH, hj⟩, hl, hd⟩ b hb
      have hlt : w.heap.size + 1 < W.heap.size := (Array.getElem?_eq_some_iff.1 hl).1
      rcases (hH b).1 hb with h | h
      · exact hJb k G W hj b h
      · unfold pair at h; omega
    · rintro k H W hk ⟨⟨G, hH, hj⟩, hl, hd⟩
      have hlt : w.heap.size + 1 < W.heap.size := (Array.getElem?_eq_some_iff.1 hl).1
      have hy := run_yield (P := P) (args := (enc k)) hl (by rw [hrec]; simp [hps])
      rw [hrec] at hy
      refine ⟨f, _, assign, body, hy, round_of_wpX trivial hfn (hassign _ k G W _ hj hk ?_)⟩
      intro a' W2 hA e1 e2
      rw [hl] at e2; rw [hd] at e1
      refine ⟨_, run_beginRound e2 (by rw [hrec]), ?_⟩
      have hlt2 : w.heap.size + 1 < W2.heap.size := (Array.getElem?_eq_some_iff.1 e2).1
      have hl3 : (W2.putObj (w.heap.size + 1) (.loop { rec .ready none with state := .busy })).heap[w.heap.size + 1]? = some (.loop { rec .ready none with state := .busy }) := World.putObj_heap_same hlt2
      have hd3 : (W2.putObj (w.heap.size + 1) (.loop { rec .ready none with state := .busy })).heap[w.heap.size]? = some (.deferred (some [])) := (World.putObj_heap_other (by omega)).trans e1
      refine wpIn_mono (hbody _ k G W a' _ (hJA k G W a' W2 _ hA (put W2 _)) hk) ?_
      have fin : ∀ (jump : Option Code) (W3 : World), W3.heap[w.heap.size + 1]? = some (.loop { rec .ready none with state := .busy }) →
          (Instr.endRound (w.heap.size + 1) jump).run P W3 = .ok (.bool jump.isNone) (W3.putObj (w.heap.size + 1) (.loop (rec (if jump.isNone then .ready else .done) jump))) ∧
          (W3.putObj (w.heap.size + 1) (.loop (rec (if jump.isNone then .ready else .done) jump))).heap[w.heap.size + 1]? = some (.loop (rec (if jump.isNone then .ready else .done) jump)) := fun jump W3 h3 => by
        have := run_endRound (P := P) jump h3
        rw [hrec] at this ⊢
        exact ⟨this, World.putObj_heap_same (Array.getElem?_eq_some_iff.1 h3).1⟩
      rintro e a3 W3 hp
      cases e with
      | normal =>
        obtain ⟨⟨k1, k2⟩, G', hj3, ff, g1, g2⟩ := hp
        obtain ⟨hr, hl4⟩ := fin none W3 (k2.trans hl3)
        refine ⟨_, _, hr, .inl ⟨rfl, fun b => G' b ∨ pair w.heap.size b, ⟨⟨G', fun _ => Iff.rfl, hJ _ _ _ _ hj3 (put W3 _)⟩, hl4, (World.putObj_heap_other (by omega)).trans (k1.trans hd3)⟩, ?_, ?_, ?_⟩⟩
        · exact (ff.trans' (put W3 _) fun b hb => .inl (.inr hb)).mono fun b hb => .inl ((hH b).2 hb)
        · exact fun b hb => ((hH b).1 hb).imp (g1 b) id
        · rintro b (hb | hb)
          · exact (g2 b hb).imp (fun h => (hH b).2 (.inl h)) id
          · exact .inl ((hH b).2 (.inr hb))
      | ret =>
        obtain ⟨⟨k1, k2⟩, hj3, ff⟩ := hp
        obtain ⟨hr, hl4⟩ := fin (some .ret) W3 (k2.trans hl3)
        exact ⟨_, _, hr, .inr (.inl ⟨rfl, ⟨.ret, hJr _ _ _ hj3 (put W3 _), hl4, (World.putObj_heap_other (by omega)).trans (k1.trans hd3)⟩, (ff.trans' (put W3 _) fun b hb => .inl (.inr hb)).mono fun b hb => .inl ((hH b).2 hb)⟩)⟩
      | exit id =>
        obtain ⟨⟨k1, k2⟩, hj3, ff⟩ := hp
        obtain ⟨hr, hl4⟩ := fin (some (.exit id)) W3 (k2.trans hl3)
        exact ⟨_, _, hr, .inr (.inl ⟨rfl, ⟨.exit id, hJr _ _ _ hj3 (put W3 _), hl4, (World.putObj_heap_other (by omega)).trans (k1.trans hd3)⟩, (ff.trans' (put W3 _) fun b hb => .inl (.inr hb)).mono fun b hb => .inl ((hH b).2 hb)⟩)⟩
      | panic ch =>
        obtain ⟨d0, k1, hj3⟩ := hp
        exact ⟨d0, .inr (.inr ⟨ch, rfl, hj3, k1.trans hd3⟩)⟩
      | goto t => exact hp.elim
      | outgrown => exact hp.elim
    · rintro b (hb | hb)
      · rw [← hW1]; have := hG0 b hb; simp only [World.size_alloc]; exact ⟨by omega, this.2⟩
      · rw [← hW1]; simp only [World.size_alloc]; unfold pair at hb; exact ⟨by omega, fun h => by have := hS b h; omega⟩
    · have f01 : Still w W1 := hW1 ▸ ((Fr.refl _ w).alloc _).alloc _
      have fin : ∀ W2 o, Fr (fun b => G0 b ∨ pair w.heap.size b) W1 W2 → Fr G0 w (W2.putObj (w.heap.size + 1) o) := fun W2 o f2 =>
        (f01.mono (fun _ x => x.elim)).trans' (f2.trans' (put W2 o) fun b hb => .inl (.inr hb)) fun b hb => by
          rcases hb with h | h
          · exact .inl h
          · unfold pair at h; exact .inr (by omega)
      rintro e W2 (⟨v, rfl, fr, H, ⟨⟨G, hH, hj⟩, hl, hd⟩⟩ | ⟨v, rfl, fr, c, hj, hl, hd⟩ | ⟨ch, rfl, hj, hd⟩)
      · exact ⟨none, _, by have := run_endLoop (P := P) hl (by rw [hrec]; simp); rw [hrec] at this; exact this, hdone G _ (hJ _ _ _ _ hj (put W2 _)) (fin W2 _ fr) ((World.putObj_heap_other (by omega)).trans hd)⟩
      · exact ⟨some c, _, by have := run_endLoop (P := P) hl (by rw [hrec]; simp); rw [hrec] at this; exact this, hret c _ (hJr _ _ _ hj (put W2 _)) (fin W2 _ fr) ((World.putObj_heap_other (by omega)).trans hd)⟩
      · exact hpan ch W2 hj hd
end

section
def geP (x : ByteArray) (l : List Pr) : List Pr := l.filter fun p => !decide (ltK p.1 x)
theorem geP_none {x : ByteArray} {l : List Pr} (h : Blw l x) : geP x l = [] := List.filter_eq_nil_iff.2 fun p hp => by simp [h p hp]
theorem geP_app (x : ByteArray) (l m : List Pr) : geP x (l ++ m) = geP x l ++ geP x m := List.filter_append ..
theorem geP_flat (x : ByteArray) : ∀ M : List (List Pr), geP x M.flatten = (M.map (geP x)).flatten
  | [] => rfl
  | m :: M => by rw [List.flatten_cons, geP_app, geP_flat x M]; rfl
theorem geP_way {B : List ByteArray} {M : List (List Pr)} {x : ByteArray} {i : Nat} (s : Sep B M) (wy : Way B x i) : geP x M.flatten = ((M.drop i).map (geP x)).flatten := by
  rw [← geP_flat]
  conv => lhs; rw [← List.take_append_drop i M, List.flatten_append, geP_app, geP_none (wy.ahead s)]
  rfl
end

section
theorem geP_no {x : ByteArray} {p : Pr} (h : ltK p.1 x) : geP x [p] = [] := by
  unfold geP
  rw [List.filter_cons_of_neg (by rw [decide_eq_true h]; decide)]
  rfl
theorem geP_yes {x : ByteArray} {p : Pr} (h : ¬ ltK p.1 x) : geP x [p] = [p] := by
  unfold geP
  rw [List.filter_cons_of_pos (by rw [decide_eq_false h]; rfl)]
  rfl
abbrev pvV (p : Pr) : Value := .agg #[.string p.1, .int .u64 (p.2 : Nat)]
def wkE (L : List Pr) (k : Nat) : Array Value := #[pvV (L.getD k default)]
structure Wv (w : World) (x : ByteArray) (bLo bT bS bL bY l sb : Nat) : Prop where
  lo : w.cell? ⟨bLo, 0, none⟩ = some (.string x)
  t : w.cell? ⟨bT, 0, none⟩ = some (.func (.func 64) #[] #[ptr bLo, ptr bT, ptr bS, ptr bL, ptr bY])
  s : w.cell? ⟨bS, 0, none⟩ = some (ptr sb)
  y : w.cell? ⟨bY, 0, none⟩ = some (.func (.yield l) #[] #[])
theorem Wv.kept {w w' : World} {x : ByteArray} {bLo bT bS bL bY l sb : Nat} (h : Wv w x bLo bT bS bL bY l sb) {F : Nat → Prop} (f : Fr F w w') (h1 : ¬ F bLo) (h2 : ¬ F bT) (h3 : ¬ F bS) (h4 : ¬ F bY) : Wv w' x bLo bT bS bL bY l sb :=
  ⟨f.cell' h.lo h1, f.cell' h.t h2, f.cell' h.s h3, f.cell' h.y h4⟩
structure Wkj (L : List Pr) (l : Nat) (J' : Nat → (Nat → Prop) → World → Prop) (Jx : World → Prop) (Jp : List PanicEntry → World → Prop) : Prop where
  lt : ∀ k G W, J' k G W → ∀ b, G b → b < W.heap.size
  off : ∀ k G O W W', J' k G W → Fr O W W' → (∀ b, O b → ¬ G b) → J' k G W'
  y : ∀ k G W, k < L.length → J' k G W → YieldAt Fence.wide (0 - 1) Tryz.prog l (wkE L k) W fun e W' => (e = .returned (.bool true) ∧ ∃ G', J' (k + 1) G' W' ∧ Fr G W W' ∧ (∀ b, G b → G' b) ∧ ∀ b, G' b → G b ∨ W.heap.size ≤ b) ∨ (e = .returned (.bool false) ∧ Jx W' ∧ Fr G W W') ∨ ∃ ch, e = .panicked ch ∧ Jp ch W'
structure Wnt (J' : Nat → (Nat → Prop) → World → Prop) (k : Nat) (G : Nat → Prop) (bL : Nat) (W : World) (z : ByteArray) (G' : Nat → Prop) (W' : World) : Prop where
  j : J' k G' W'
  fr : Fr (fun b => G b ∨ b = bL) W W'
  up : ∀ b, G b → G' b
  new : ∀ b, G' b → G b ∨ W.heap.size ≤ b
  la : W'.heap[bL]? = some (.cells #[.string z] 9 (0, 0))
def WkE (J' : Nat → (Nat → Prop) → World → Prop) (Jx : World → Prop) (Jp : List PanicEntry → World → Prop) (k : Nat) (G : Nat → Prop) (bL : Nat) (W : World) (l : List Pr) (e : Ending) (W' : World) : Prop :=
  (e = .returned (.bool true) ∧ ∃ G' p, p ∈ l ∧ Wnt J' k G bL W p.1 G' W') ∨ (e = .returned (.bool false) ∧ Jx W' ∧ Fr (fun b => G b ∨ b = bL) W W') ∨ ∃ ch, e = .panicked ch ∧ Jp ch W'

set_option maxRecDepth 100000 in
set_option maxHeartbeats 4000000 in
theorem w_leaf {x : ByteArray} {bLo bT bS bL bY l sb : Nat} {L : List Pr} {J' : Nat → (Nat → Prop) → World → Prop} {Jx : World → Prop} {Jp : List PanicEntry → World → Prop} (wk : Wkj L l J' Jx Jp) (W : World) (G : Nat → Prop) (k0 : Nat) (z : ByteArray) (m : List Pr) (a : Option Addr) (c : Nat)
    (wv : Wv W x bLo bT bS bL bY l sb) (hL : Lf W a c m) (hm : m ≠ []) (hm32 : m.length ≤ 32) (ri : Rise m) (hz : ∀ p ∈ m, ltK z p.1) (hj : J' k0 G W) (hla : W.heap[bL]? = some (.cells #[.string z] 9 (0, 0)))
    (hG : ∀ b, G b → b < W.heap.size ∧ b ≠ bLo ∧ b ≠ bT ∧ b ≠ bS ∧ b ≠ bL ∧ b ≠ bY ∧ ∀ y, a = some y → b ≠ y.block) (hn : bL ≠ bLo ∧ bL ≠ bT ∧ bL ≠ bS ∧ bL ≠ bY ∧ ∀ y, a = some y → bL ≠ y.block)
    (hix : ∀ i p, (geP x m)[i]? = some p → L[k0 + i]? = some p) :
    Calls Tryz.prog 64 #[.iface 100 (.slice a m.length c), ptr bLo, ptr bT, ptr bS, ptr bL, ptr bY] W fun e W' => WkE J' Jx Jp (k0 + (geP x m).length) G bL W m e W' := by
  have hwd : Fence.wide.depth = none := rfl
  have hwf : ∀ f, Fence.wide.fn f := fun _ => trivial
  have t1 := fun w => taB_leaf (.slice a m.length c) w
  have t2 := fun w => taL_leaf (.slice a m.length c) w
  have hbl : bL < W.heap.size := (Array.getElem?_eq_some_iff.1 hla).1
  obtain ⟨W1, hW1⟩ : ∃ W1, W.alloc (.cells #[.int .i64 0, .slice none 0 0, .slice none 0 0] 96) = W1 := ⟨_, rfl⟩
  have f1 : Still W W1 := hW1 ▸ (Fr.refl _ W).alloc _
  have HH := hide (And.intro wk (And.intro wv (And.intro hL (And.intro ri (And.intro hz (And.intro hj (And.intro hla (And.intro hG (And.intro hn (And.intro hix (And.intro hbl (And.intro hm hm32))))))))))))
  have HW1 := hide hW1
  have HF1 := hide f1
  clear wk wv hL hz hj hla hG hn hix hbl hm hW1 f1 ri
  refine (callsIn_wide (n := 0)).1 ?_
  refine callsIn_of_wp Tryz.func64 rfl trivial ?_ rfl
  simp only [Tryz.ntmps64, List.size_toArray, List.length_cons, List.length_nil, Nat.reduceAdd, Nat.reduceSub, Array.replicate_succ, Array.replicate_zero, List.push_toArray, List.append_toArray, List.nil_append, List.cons_append]
  gi_wp2_with fail
  rw [unhide HW1]
  gi_loopw [39] (fun c wr => ∃ (i : Nat) (G' : Nat → Prop) (z' : ByteArray), c = .int .i64 (i : Nat) ∧ Hid (i ≤ m.length ∧ Wnt J' (k0 + (geP x (m.take i)).length) G bL W1 z' G' wr ∧ (i = 0 → z' = z) ∧ ∀ j, i = j + 1 → ∃ p, m[j]? = some p ∧ z' = p.1)) (fun c wr => m.length - (intOf c).toNat)
  case atStart =>
    obtain ⟨wk, wv, hL, ri, hz, hj, hla, hG, hn, hix, hbl, hm, _⟩ := unhide HH
    have f1 := unhide HF1
    refine ⟨0, G, z, rfl, hide ⟨Nat.zero_le _, ⟨?_, Fr.refl _ _, fun _ h => h, fun b h => .inl h, f1.obj hla (fun x => x)⟩, fun _ => rfl, fun j hj => by omega⟩⟩
    have : geP x (m.take 0) = [] := rfl
    rw [this]
    exact wk.off _ _ _ _ _ hj f1 (fun _ x => x.elim)
  case round =>
    obtain ⟨i, G', z', rfl, HI⟩ := hrel
    obtain ⟨hi, wt, hz0, hzs⟩ := unhide HI
    obtain ⟨wk, wv, hL, ri, hz, hj, hla, hG, hn, hix, hbl, hm, _⟩ := unhide HH
    have f1 := unhide HF1
    have hs1 : W.heap.size ≤ W1.heap.size := f1.size
    by_cases hlt : i < m.length
    · obtain ⟨p, hp⟩ : ∃ p, m[i]? = some p := ⟨_, List.getElem?_eq_getElem hlt⟩
      have hpm := List.mem_of_getElem? hp
      obtain ⟨ab, ao, ea, c1, c2⟩ := hL.pair hp
      have na : ¬ (G ab ∨ ab = bL) := by
        rintro (h | h)
        · exact (hG _ h).2.2.2.2.2.2 _ ea rfl
        · exact hn.2.2.2.2 _ ea h.symm
      have nv : ∀ k, (k = bLo ∨ k = bT ∨ k = bS ∨ k = bY) → ¬ (G k ∨ k = bL) := by
        rintro k hk (h | h)
        · obtain ⟨_, q1, q2, q3, q4, q5, _⟩ := hG k h
          rcases hk with e | e | e | e
          · exact q1 e
          · exact q2 e
          · exact q3 e
          · exact q5 e
        · obtain ⟨q1, q2, q3, q4, _⟩ := hn
          rcases hk with e | e | e | e
          · exact q1 (h.symm.trans e)
          · exact q2 (h.symm.trans e)
          · exact q3 (h.symm.trans e)
          · exact q4 (h.symm.trans e)
      have fWr : Fr (fun k => G k ∨ k = bL) W wr := (f1.mono (fun _ x => x.elim)).trans' wt.fr (fun k hk => .inl hk)
      replace c1 := fWr.cell' c1 na
      replace c2 := fWr.cell' c2 na
      have wvr := wv.kept fWr (nv _ (.inl rfl)) (nv _ (.inr (.inl rfl))) (nv _ (.inr (.inr (.inl rfl)))) (nv _ (.inr (.inr (.inr rfl))))
      obtain ⟨W2, hW2⟩ : ∃ W2, wr.alloc (.cells #[.string p.1, .int .u64 (p.2 : Nat)] 43) = W2 := ⟨_, rfl⟩
      have f2 : Still wr W2 := hW2 ▸ (Fr.refl _ wr).alloc _
      have o2 : W2.heap[wr.heap.size]? = some (.cells #[.string p.1, .int .u64 (p.2 : Nat)] 43 (0, 0)) := hW2 ▸ heap_alloc_new wr _
      have la2 := f2.obj wt.la (fun x => x)
      obtain ⟨W3, hW3⟩ : ∃ W3, W2.setCell ⟨bL, 0, none⟩ (.string p.1) = W3 := ⟨_, rfl⟩
      have f3 : Fr (fun k => k = bL) W2 W3 := hW3 ▸ (Fr.refl (fun k => k = bL) W2).setCell (.inl rfl) _
      have la3 : W3.heap[bL]? = some (.cells #[.string p.1] 9 (0, 0)) := hW3 ▸ heap_setCell_same W2 bL 0 _ _ (.string p.1) la2
      have hbr : bL < wr.heap.size := (Array.getElem?_eq_some_iff.1 wt.la).1
      have nG' : ¬ G' bL := fun h => by
        rcases wt.new _ h with h | h
        · exact (hG _ h).2.2.2.2.1 rfl
        · omega
      have f23 : Fr (fun k => k = bL) wr W3 := (f2.mono (fun _ x => x.elim)).trans' f3 (fun k hk => .inl hk)
      have j3 : J' (k0 + (geP x (m.take i)).length) G' W3 := wk.off _ _ _ _ _ wt.j f23 (fun k hk h => nG' (hk ▸ h))
      have fr3 : Fr (fun k => G k ∨ k = bL) W1 W3 := wt.fr.trans' f23 (fun k hk => .inl (.inr hk))
      have etk : m.take (i + 1) = m.take i ++ [p] := by rw [List.take_add_one, hp]; rfl
      have dl2 : W2.cell? ⟨bL, 0, none⟩ = some (.string z') := cell_of_obj la2 0
      have zl2 : W2.frozen? ⟨bL, 0, none⟩ = false := by simp [World.frozen?, la2]
      have e0 : W2.cell? ⟨wr.heap.size, 0, none⟩ = some (.string p.1) := cell_of_obj o2 0
      have e1 : W2.cell? ⟨wr.heap.size, 1, none⟩ = some (.int .u64 (p.2 : Nat)) := cell_of_obj o2 1
      have g0 : W3.cell? ⟨wr.heap.size, 0, none⟩ = some (.string p.1) := f3.cell' e0 (by show ¬ wr.heap.size = bL; omega)
      have g1 : W3.cell? ⟨wr.heap.size, 1, none⟩ = some (.int .u64 (p.2 : Nat)) := f3.cell' e1 (by show ¬ wr.heap.size = bL; omega)
      have wv3 := wvr.kept f23 (fun e => hn.1 e.symm) (fun e => hn.2.1 e.symm) (fun e => hn.2.2.1 e.symm) (fun e => hn.2.2.2.1 e.symm)
      have l3 := wv3.lo
      have y3 := wv3.y
      have lx := less_eq p.1 x
      have lz := less_eq p.1 z'
      have lzf : i = 0 → Op.bytesLess p.1.toList z'.toList = false ∧ (p.1.toList == z'.toList) = false := fun h0 => by
        have hlt := hz p hpm
        rw [← hz0 h0] at hlt
        refine ⟨by rw [lz]; exact decide_eq_false (ltK_asym hlt), ?_⟩
        rw [beq_eq_false_iff_ne]
        intro e
        rw [Lib.toList_data, Lib.toList_data] at e
        rw [bytes_ext e] at hlt
        exact ltK_irr _ hlt
      have hcase : (((i : Int) == 0) = true ∧ Op.bytesLess p.1.toList z'.toList = false ∧ (p.1.toList == z'.toList) = false) ∨ ((i : Int) == 0) = false := by
        by_cases h0 : i = 0
        · exact .inl ⟨by simp [h0], lzf h0⟩
        · exact .inr (by simp; omega)
      have hin : ((i : Int) < (m.length : Int)) := by omega
      have hin' : ((i : Int) < (m.length : Int)) = True := by simp; omega
      have h32 := (unhide HH).2.2.2.2.2.2.2.2.2.2.2.2
      have HZ := hide (And.intro wt (And.intro hix (And.intro fr3 (And.intro j3 (And.intro la3 (And.intro etk (And.intro hp (And.intro wk (And.intro hlt hs1)))))))))
      have HW2 := hide hW2; have HW3 := hide hW3; have HNB := hide nG'; have HFA := hide f1
      rw [← hW2] at dl2 zl2 e0 e1
      rw [← hW3, ← hW2] at g0 g1 l3 y3
      subst ea
      clear HI hi wt hz0 hzs wk wv hL ri hz hj hla hG hn hix hbl hm f1 hs1 hpm na nv fWr wvr f2 o2 la2 f3 la3 nG' f23 j3 fr3 etk wv3 lz lzf hp hlt hW2 hW3 HF1 hbr
      generalize m.length = ml at *
      by_cases hk : ltK p.1 x
      · rw [decide_eq_true hk] at lx
        have HK := hide hk
        clear hk
        rcases hcase with ⟨hc1, hc2, hc3⟩ | hc1
        all_goals
          gi_wp2
          obtain ⟨wt, hix, fr3, j3, la3, etk, hp, wk, hlt, hs1⟩ := unhide HZ
          rw [unhide HW2, unhide HW3]
          refine ⟨⟨i + 1, G', p.1, by go_num, hide ⟨hlt, ⟨?_, fr3, wt.up, wt.new, la3⟩, fun h => by omega, fun j hj => ⟨p, by rw [show j = i by omega]; exact hp, rfl⟩⟩⟩, by simp [intOf]; omega⟩
          have e : geP x [p] = [] := geP_no (unhide HK)
          rw [etk, geP_app, e, List.append_nil]
          exact j3
      · rw [decide_eq_false hk] at lx
        obtain ⟨fn, tmps, assign, body, hy, hR⟩ : YieldAt Fence.wide (0 - 1) Tryz.prog l #[pvV p] W3 fun e W' => (e = .returned (.bool true) ∧ ∃ G2, J' (k0 + (geP x (m.take (i + 1))).length) G2 W' ∧ Fr G' W3 W' ∧ (∀ b, G' b → G2 b) ∧ ∀ b, G2 b → G' b ∨ W3.heap.size ≤ b) ∨ (e = .returned (.bool false) ∧ Jx W' ∧ Fr G' W3 W') ∨ ∃ ch, e = .panicked ch ∧ Jp ch W' := by
          obtain ⟨wt, hix, fr3, j3, la3, etk, hp, wk, hlt, hs1⟩ := unhide HZ
          have e : geP x [p] = [p] := geP_yes hk
          have hL := hix (geP x (m.take i)).length p (by
            have e2 : geP x m = geP x (m.take i) ++ (p :: geP x (m.drop (i + 1))) := by
              conv => lhs; rw [← List.take_append_drop (i + 1) m, etk, geP_app, geP_app, e]
              simp
            rw [e2]
            simp)
          have hkL := (List.getElem?_eq_some_iff.1 hL).1
          have hy := wk.y _ G' W3 hkL j3
          have ew : wkE L (k0 + (geP x (m.take i)).length) = #[pvV p] := by unfold wkE; simp only [List.getD, hL, Option.getD_some]
          rw [ew] at hy
          have el : k0 + (geP x (m.take (i + 1))).length = k0 + (geP x (m.take i)).length + 1 := by rw [etk, geP_app, e, List.length_append]; rfl
          rw [el]
          exact hy
        rw [← unhide HW3, ← unhide HW2] at hy
        have HR := hide hR
        rw [← unhide HW3, ← unhide HW2] at HR
        clear hR hk
        rcases hcase with ⟨hc1, hc2, hc3⟩ | hc1
        all_goals
          gi_wp2
          refine (unhide HR).mono ?_
          clear hy HR dl2 zl2 e0 e1 g0 g1 l3 y3 c1 c2
          rintro e W4 (⟨rfl, G2, hj4, f4, up4, new4⟩ | ⟨rfl, hx4, f4⟩ | ⟨ch, rfl, hp4⟩)
          · rw [unhide HW2, unhide HW3] at f4 new4
            have HN := hide (And.intro hj4 (And.intro f4 (And.intro up4 new4)))
            clear hj4 f4 up4 new4
            gi_wp2
            obtain ⟨wt, hix, fr3, j3, la3, etk, hp, wk, hlt, hs1⟩ := unhide HZ
            obtain ⟨hj4, f4, up4, new4⟩ := unhide HN
            have hG' : ∀ k, G' k → (G k ∨ k = bL) ∨ W1.heap.size ≤ k := fun k hk => (wt.new k hk).imp .inl id
            have hnb : ¬ G' bL := unhide HNB
            refine ⟨⟨i + 1, G2, p.1, by go_num, hide ⟨hlt, ⟨hj4, fr3.trans' f4 hG', fun b hb => up4 b (wt.up b hb), fun b hb => ?_, f4.obj la3 hnb⟩, fun h => by omega, fun j hj => ⟨p, by rw [show j = i by omega]; exact hp, rfl⟩⟩⟩, by simp [intOf]; omega⟩
            rcases new4 b hb with h | h
            · exact wt.new b h
            · exact .inr (Nat.le_trans fr3.size h)
          · rw [unhide HW2, unhide HW3] at f4
            have HX := hide (And.intro hx4 f4)
            clear hx4 f4
            gi_wp2
            go_ret
            obtain ⟨wt, hix, fr3, j3, la3, etk, hp, wk, hlt, hs1⟩ := unhide HZ
            obtain ⟨hx4, f4⟩ := unhide HX
            have hG' : ∀ k, G' k → (G k ∨ k = bL) ∨ W1.heap.size ≤ k := fun k hk => (wt.new k hk).imp .inl id
            exact .inr (.inl ⟨rfl, hx4, ((unhide HFA).mono (fun _ x => x.elim)).trans' (fr3.trans' f4 hG') (fun k hk => .inl hk)⟩)
          · exact ⟨rfl, .inr (.inr ⟨ch, rfl, hp4⟩)⟩
    · have hin' : ((i : Int) < (m.length : Int)) = False := by simp; omega
      obtain ⟨j, hj⟩ : ∃ j, i = j + 1 := ⟨i - 1, by have : m.length ≠ 0 := fun e => hm (List.length_eq_zero_iff.1 e); omega⟩
      obtain ⟨p, hp, ez⟩ := hzs j hj
      have e : m.take i = m := List.take_of_length_le (by omega)
      rw [e, ez] at wt
      have HT := hide (show Wnt J' (k0 + (geP x m).length) G bL W p.1 G' wr from ⟨wt.j, (f1.mono (fun _ x => x.elim)).trans' wt.fr (fun k hk => .inl hk), wt.up, fun b hb => (wt.new b hb).imp id (fun h => Nat.le_trans hs1 h), wt.la⟩)
      have HP := hide (List.mem_of_getElem? hp)
      clear HI hi wt hz0 hzs wk wv hL ri hz hj hla hG hn hix hbl hm f1 hs1 hlt hp ez e HF1 HH
      gi_wp2
      go_ret
      exact .inl ⟨rfl, G', p, unhide HP, unhide HT⟩
end
end Go.Proofs.YtkaplgmjdfmpmaaGreatDoor
