/- CalcTells walked. -/
import Derived.Test.YtggjcfmoebghjaaDot
import Derived.Test.YtggjcfmoebghjaaFloats
import Derived.Test.YtggjcfmoebghjaaSpread
namespace Go.Proofs.Ytggjcfmoebghjaa
open Go.RowKit

/-- Two words that SameBits calls the same. -/
def SameT (x y : Nat) : Prop := x < 18446744073709551616 ∧ y < 18446744073709551616 ∧ sameB x y = true
theorem same_true (x y : Nat) (h : SameT x y) (w : World) : Calls Try.prog 18 #[.float .f64 x, .float .f64 y] w fun e w' => e = .returned (.bool true) ∧ w' = w := by
  have := same16_ok x y h.1 h.2.1 w
  rw [h.2.2] at this; exact this
theorem same_is {o : Option Nat} {x y : Nat} (h : Is o x) (k : Is o y) : SameT x y := by
  refine ⟨h.1, k.1, ?_⟩
  rcases h with ⟨_, ⟨h1, _⟩ | ⟨h1, h2⟩⟩ <;> rcases k with ⟨_, ⟨k1, _⟩ | ⟨k1, k2⟩⟩
  · rw [h1] at k1; cases k1; simp [sameB]
  · rw [h1] at k1; cases k1
  · rw [h1] at k1; cases k1
  · simp [sameB, h2, k2]
theorem same_self {x : Nat} (h : x < 18446744073709551616) : SameT x x := ⟨h, h, by simp [sameB]⟩
theorem lo_lt (l : List Nat) (h : ∀ x ∈ l, x < 18446744073709551616) : lo l < 18446744073709551616 := by
  have : ∀ (l : List Nat) (m : Nat), m < 18446744073709551616 → (∀ x ∈ l, x < 18446744073709551616) → l.foldl (fun m x => if codeN x < codeN m then x else m) m < 18446744073709551616 := by
    intro l
    induction l with
    | nil => intro m hm _; exact hm
    | cons a l ih =>
      intro m hm hl
      rw [List.foldl_cons]
      apply ih
      · split
        · exact hl a (by simp)
        · exact hm
      · exact fun x hx => hl x (by simp [hx])
  exact this l _ (by decide) h
theorem hi_lt (l : List Nat) (h : ∀ x ∈ l, x < 18446744073709551616) : hi l < 18446744073709551616 := by
  have : ∀ (l : List Nat) (m : Nat), m < 18446744073709551616 → (∀ x ∈ l, x < 18446744073709551616) → l.foldl (fun m x => if codeN m < codeN x then x else m) m < 18446744073709551616 := by
    intro l
    induction l with
    | nil => intro m hm _; exact hm
    | cons a l ih =>
      intro m hm hl
      rw [List.foldl_cons]
      apply ih
      · split
        · exact hl a (by simp)
        · exact hm
      · exact fun x hx => hl x (by simp [hx])
  exact this l _ (by decide) h
theorem least_lt (l : List Nat) (h : ∀ x ∈ l, x < 18446744073709551616) : least l < 18446744073709551616 := by
  unfold least; split
  · decide
  · exact lo_lt l h
theorem most_lt (l : List Nat) (h : ∀ x ∈ l, x < 18446744073709551616) : most l < 18446744073709551616 := by
  unfold most; split
  · decide
  · exact hi_lt l h
theorem dotO_num (x y : List Nat) (s : Nat) (h : dotO x y = some s) : nanB s = false ∧ s < 18446744073709551616 := by
  unfold dotO at h
  rcases (x.zip y).eq_nil_or_concat with e | ⟨m, p, e⟩
  · rw [e] at h; cases h; exact ⟨rfl, by decide⟩
  · rw [e, List.concat_eq_append, List.foldl_append] at h
    obtain ⟨t, _, h2⟩ := Option.bind_eq_some_iff.1 (show (List.foldl dotS (some 0) m).bind (fun s => (mulB p.1 p.2).bind fun q => sumB s q) = some s from h)
    obtain ⟨q, _, h3⟩ := Option.bind_eq_some_iff.1 h2
    exact sum_num _ _ _ h3

/-- What the law's calls tell, whatever is drawn. -/
structure Tells (w : World) (x y : Value) (A B S M D : Nat) : Prop where
  sum : ∀ n, Calls Try.prog 9 #[x] (w.drewN n) fun e w' => e = .returned (.float .f64 S) ∧ ∃ n, w' = w.drewN n
  mean : ∀ n, Calls Try.prog 11 #[x] (w.drewN n) fun e w' => e = .returned (.float .f64 M) ∧ ∃ n, w' = w.drewN n
  min : ∀ n, Calls Try.prog 12 #[x] (w.drewN n) fun e w' => e = .returned (.float .f64 A) ∧ w' = w.drewN n
  max : ∀ n, Calls Try.prog 13 #[x] (w.drewN n) fun e w' => e = .returned (.float .f64 B) ∧ w' = w.drewN n
  rmin : ∀ n, Calls Try.prog 26 #[x] (w.drewN n) fun e w' => e = .returned (.float .f64 A) ∧ w' = w.drewN n
  rmax : ∀ n, Calls Try.prog 27 #[x] (w.drewN n) fun e w' => e = .returned (.float .f64 B) ∧ w' = w.drewN n
  spread : ∀ n, Calls Try.prog 17 #[x] (w.drewN n) fun e w' => e = .returned (.tuple #[.float .f64 A, .float .f64 B, .float .f64 S, .float .f64 M]) ∧ ∃ n, w' = w.drewN n
  dot : ∀ n, Calls Try.prog 14 #[x, y] (w.drewN n) fun e w' => e = .returned (.float .f64 D) ∧ ∃ n, w' = w.drewN n
  rdot : ∀ n, Calls Try.prog 28 #[x, y] (w.drewN n) fun e w' => ∃ s, e = .returned (.float .f64 s) ∧ (∃ n, w' = w.drewN n) ∧ SameT D s
theorem tells_of {w : World} {va vb : Option Addr} {ca cb : Nat} {L K : List Nat} (hL : Fls w va L) (hK : Fls w vb K) (h1 : L.length ≤ 1000) (h2 : K.length ≤ 1000) :
    Tells w (.slice va L.length ca) (.slice vb K.length cb) (least L) (most L) (one (sumO L)) (one (meanO L)) (one (dotO L K)) where
  sum n := (sum_ok va ca L (w.drewN n) hL h1).mono fun _ _ ⟨a, m, b⟩ => ⟨a, n + m, b.trans (drewN_drewN w n m)⟩
  mean n := (mean_ok va ca L (w.drewN n) hL h1).mono fun _ _ ⟨a, m, b⟩ => ⟨a, n + m, b.trans (drewN_drewN w n m)⟩
  min n := min_ok va ca L (w.drewN n) hL h1
  max n := max_ok va ca L (w.drewN n) hL h1
  rmin n := refLeast_ok va ca L (w.drewN n) hL h1
  rmax n := refMost_ok va ca L (w.drewN n) hL h1
  spread n := (spread_ok va ca L (w.drewN n) hL h1).mono fun _ _ ⟨a, m, b⟩ => ⟨a, n + m, b.trans (drewN_drewN w n m)⟩
  dot n := (dot_ok va vb ca cb L K (w.drewN n) hL hK h1 h2).mono fun _ _ ⟨a, m, b⟩ => ⟨a, n + m, b.trans (drewN_drewN w n m)⟩
  rdot n := (refDot_ok va vb ca cb L K (w.drewN n) hL hK h1).mono fun _ _ ⟨s, a, ⟨m, b⟩, c⟩ => ⟨s, a, ⟨n + m, b.trans (drewN_drewN w n m)⟩, same_is (is_one _ (dotO_num L K)) c⟩

set_option maxRecDepth 100000 in
set_option maxHeartbeats 4000000 in
theorem tells_ok (a0 a1 : Option Addr) (len0 cap0 len1 cap1 : Nat) (z0 z1 : Nat → Int) (w : World) (hN0 : Nums .u64 w a0 len0 z0) (hN1 : Nums .u64 w a1 len1 z1) (hz0 : ∀ i, i < len0 → (z0 i).toNat < 18446744073709551616) (hz1 : ∀ i, i < len1 → (z1 i).toNat < 18446744073709551616) :
    Calls Try.prog 7 #[.slice a0 len0 cap0, .slice a1 len1 cap1] w fun e w' => e = .returned (.bool true) ∧ Below w.heap.size w w' := by
  have F0 := hide (floats_ok a0 len0 cap0 z0 w hN0 hz0)
  have F1 := hide (fun w' (h : Below w.heap.size w w') => floats_ok a1 len1 cap1 z1 w' (hN1.on h) hz1)
  clear hN0 hN1 hz0 hz1
  go_enter Try.func7, Try.ntmps7
  go_wp2_with fail
  refine (unhide F0).mono ?_
  rintro e w1 ⟨v0, rfl, hO0, hB0⟩
  have HO0 := hide hO0; have HB0 := hide hB0
  clear hO0 hB0
  go_wp2_with fail
  refine (unhide F1 w1 (unhide HB0)).mono ?_
  rintro e w2 ⟨v1, rfl, hO1, hB1⟩
  obtain ⟨va, ca, rfl, hf0, _⟩ := (unhide HO0).fls
  obtain ⟨vb, cb, rfl, hf1, _⟩ := hO1.fls
  have l0 := flo_len z0 (min len0 60)
  have l1 := flo_len z1 (min len1 60)
  have HB := hide (below_step (unhide HB0) hB1)
  have hf0' := hf0.on hB1
  have hlt := (unhide HO0).2
  generalize flo z0 (min len0 60) = L at *
  generalize flo z1 (min len1 60) = K at *
  have T := tells_of (ca := ca) (cb := cb) hf0' hf1 (by omega) (by omega)
  have R := hide (refSum_ok va ca L w2 hf0' (by omega))
  have A := hide awake_ok
  have EA := same_self (least_lt L hlt)
  have EB := same_self (most_lt L hlt)
  have GS := hide (fun s (h : Is (sumO L) s) => same_is (is_one _ (sumO_num L)) h)
  have GM := hide (fun s (h : Is (meanO L) s) => same_is (is_one _ (meanO_num L)) h)
  have hL60 : L.length ≤ 60 := by omega
  have HME := hide (show meanO L = (sumO L).bind fun s => divB s (fl L.length) from rfl)
  have HZ := hide (show L.length = 0 → meanO L = none by
    intro h
    rw [List.length_eq_zero_iff] at h
    subst h; decide +kernel)
  clear HO0 HB0 hO1 hB1 hf0 hf1 hf0' l0 l1 hlt F0 F1
  have T1 := hide T.sum; have T2 := hide T.mean; have T3 := hide T.min; have T4 := hide T.max; have T5 := hide T.rmin; have T6 := hide T.rmax; have T7 := hide T.spread; have T8 := hide T.dot; have T9 := hide T.rdot
  clear T
  generalize least L = lA at *
  generalize most L = lB at *
  generalize one (sumO L) = lS at *
  generalize one (meanO L) = lM at *
  generalize one (dotO L K) = lD at *
  have EA' := hide EA; have EB' := hide EB
  clear EA EB
  go_wp2_with fail
  refine (unhide R).mono ?_
  rintro e w3 ⟨s, rfl, ⟨n, rfl⟩, hI⟩
  have ES := hide (unhide GS s hI)
  have HI := hide hI
  clear hI GS R
  go_wp2_with fail
  refine (nan_ok _).mono ?_
  rintro e w' ⟨rfl, h⟩; rw [h]; clear h w'
  by_cases hpos : 0 < L.length
  · have hpos' : (0 : Int) < L.length := by omega
    obtain ⟨m, d, hdiv, hM⟩ := div_is _ s (fl L.length) (unhide HI) (w2.drewN n)
    have EM := hide (unhide GM m ((unhide HME).symm ▸ hM))
    have hy : floatOfInt .f64 (L.length : Int) = fl L.length := rfl
    clear hM GM HME HZ
    generalize fl L.length = y at *
    go_wp2_with (first | (go_at_call 18; refine (same_true _ _ (unhide (by assumption)) _).mono ?_; rintro e w' ⟨rfl, h⟩; rw [h]; clear h w') | (go_at_call 9; refine (unhide T1 _).mono ?_; rintro e w' ⟨rfl, n5, rfl⟩) | (go_at_call 11; refine (unhide T2 _).mono ?_; rintro e w' ⟨rfl, n5, rfl⟩) | (go_at_call 12; refine (unhide T3 _).mono ?_; rintro e w' ⟨rfl, h⟩; rw [h]; clear h w') | (go_at_call 13; refine (unhide T4 _).mono ?_; rintro e w' ⟨rfl, h⟩; rw [h]; clear h w') | (go_at_call 26; refine (unhide T5 _).mono ?_; rintro e w' ⟨rfl, h⟩; rw [h]; clear h w') | (go_at_call 27; refine (unhide T6 _).mono ?_; rintro e w' ⟨rfl, h⟩; rw [h]; clear h w') | (go_at_call 17; refine (unhide T7 _).mono ?_; rintro e w' ⟨rfl, n5, rfl⟩) | (go_at_call 14; refine (unhide T8 _).mono ?_; rintro e w' ⟨rfl, n5, rfl⟩) | (go_at_call 28; refine (unhide T9 _).mono ?_; rintro e w' ⟨sd, rfl, ⟨n6, rfl⟩, hD⟩; have HD := hide hD; clear hD) | (go_at_call 10; refine (unhide A _).mono ?_; rintro e w9 ⟨rfl, h9⟩; have H9 := hide h9; clear h9))
    go_ret
    exact ⟨rfl, below_step (below_step (unhide HB) (below_drewN' w2 _)) (unhide H9)⟩
  · have hpos' : ¬ (0 : Int) < L.length := by omega
    have EM := hide (unhide GM 9221120237041090561 (by rw [unhide HZ (by omega)]; exact ⟨by decide, .inr ⟨rfl, by decide⟩⟩))
    clear GM HME HZ
    go_wp2_with (first | (go_at_call 18; refine (same_true _ _ (unhide (by assumption)) _).mono ?_; rintro e w' ⟨rfl, h⟩; rw [h]; clear h w') | (go_at_call 9; refine (unhide T1 _).mono ?_; rintro e w' ⟨rfl, n5, rfl⟩) | (go_at_call 11; refine (unhide T2 _).mono ?_; rintro e w' ⟨rfl, n5, rfl⟩) | (go_at_call 12; refine (unhide T3 _).mono ?_; rintro e w' ⟨rfl, h⟩; rw [h]; clear h w') | (go_at_call 13; refine (unhide T4 _).mono ?_; rintro e w' ⟨rfl, h⟩; rw [h]; clear h w') | (go_at_call 26; refine (unhide T5 _).mono ?_; rintro e w' ⟨rfl, h⟩; rw [h]; clear h w') | (go_at_call 27; refine (unhide T6 _).mono ?_; rintro e w' ⟨rfl, h⟩; rw [h]; clear h w') | (go_at_call 17; refine (unhide T7 _).mono ?_; rintro e w' ⟨rfl, n5, rfl⟩) | (go_at_call 14; refine (unhide T8 _).mono ?_; rintro e w' ⟨rfl, n5, rfl⟩) | (go_at_call 28; refine (unhide T9 _).mono ?_; rintro e w' ⟨sd, rfl, ⟨n6, rfl⟩, hD⟩; have HD := hide hD; clear hD) | (go_at_call 10; refine (unhide A _).mono ?_; rintro e w9 ⟨rfl, h9⟩; have H9 := hide h9; clear h9))
    go_ret
    exact ⟨rfl, below_step (below_step (unhide HB) (below_drewN' w2 _)) (unhide H9)⟩
end Go.Proofs.Ytggjcfmoebghjaa
