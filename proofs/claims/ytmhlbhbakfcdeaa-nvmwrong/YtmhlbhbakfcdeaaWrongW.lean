/- NvmWrong: the walks. -/
import Derived.Test.YtmhlbhbakfcdeaaWrongC
import Derived.Test.YtmhlbhbakfcdeaaAwake
namespace Go.Proofs.Ytmhlbhbakfcdeaa
open Go.RowKit

theorem waitL_nil {now lasts : Nat → Int} (h : ∀ j, now j = lasts j) : ∀ m, waitL now lasts m = []
  | 0 => rfl
  | m + 1 => by simp only [waitL, if_pos (h m)]; exact waitL_nil h m

/-- Nothing waits. -/
theorem at_waits_none {w0 w : World} {b : Nat} {F : Nat → Prop} {G : Nat → Option Obj} {A : Ab} (h : At w0 b F G w A) (he : ∀ j, A.now j = A.lasts j) :
    Calls Try.prog 20 #[ptr b] w fun e w' => (∃ va cap, e = .returned (.slice va 0 cap)) ∧ At w0 b F G w' A := by
  obtain ⟨L, d, hL⟩ := h.ex
  refine (waiting_ok d).mono ?_
  rintro e w' ⟨v, rfl, ho, hf⟩
  rw [waitL_nil he] at ho
  obtain ⟨va, cap, rfl, _⟩ := owns_open (W := []) ho
  exact ⟨⟨va, cap, rfl⟩, h.more hf⟩

theorem at_steps {w0 w : World} {b : Nat} {F : Nat → Prop} {G : Nat → Option Obj} {A : Ab} (h : At w0 b F G w A) :
    Calls Try.prog 23 #[ptr b] w fun e w' => e = .returned (.int .i64 A.steps) ∧ w' = w := by
  obtain ⟨L, d, hL⟩ := h.ex
  exact steps_any b A.steps w d.c4

/-- NvmWrong's beginning: its two boxes, a device of two lines, the variable that holds it. -/
structure Begun (w V : World) (b pd : Nat) (L : Lay) (i kind : Int) (A : Ab) : Prop where
  dev : DevL V b L A
  fr : Fr (fun _ => False) w V
  new : ∀ k, foot b L k → w.heap.size + 2 ≤ k ∧ k ≠ pd
  ci : V.cell? ⟨w.heap.size, 0, none⟩ = some (.int .i64 i)
  ck : V.cell? ⟨w.heap.size + 1, 0, none⟩ = some (.int .i64 kind)
  cd : V.cell? ⟨pd, 0, none⟩ = some (ptr b)
  lt : pd < V.heap.size

theorem begun {w w1 : World} {L : Lay} {i kind : Int} (d1 : DevL w1 (w.heap.size + 1 + 1 + 3) L (Ab.fresh 2)) (f1 : Fr (fun _ => False) ((w.alloc (.cells #[.int .i64 i] 3)).alloc (.cells #[.int .i64 kind] 3)) w1) (s1 : ∀ k, foot (w.heap.size + 1 + 1 + 3) L k → w.heap.size + 1 + 1 ≤ k) :
    Begun w (w1.alloc (.cells #[ptr (w.heap.size + 1 + 1 + 3)] 23)) (w.heap.size + 1 + 1 + 3) w1.heap.size L i kind (Ab.fresh 2) := by
  have hs := f1.size
  simp only [World.size_alloc] at hs
  refine ⟨d1.keptF ((Fr.refl _ w1).alloc _), ((((Fr.refl _ w).alloc _).alloc _).trans f1).alloc _, fun k hk => ⟨by have := s1 k hk; omega, by have := d1.lt k hk; omega⟩, ?_, ?_, ?_, by simp⟩
  · rw [World.cell?_alloc_lt _ _ _ (by simp <;> omega), f1.cell (p := ⟨w.heap.size, 0, none⟩) (by simp <;> omega) (fun h => h), World.cell?_alloc_lt _ _ _ (by simp), World.cell?_alloc_new]; rfl
  · rw [World.cell?_alloc_lt _ _ _ (by simp <;> omega), f1.cell (p := ⟨w.heap.size + 1, 0, none⟩) (by simp <;> omega) (fun h => h)]
    have := World.cell?_alloc_new (w.alloc (.cells #[.int .i64 i] 3)) #[.int .i64 kind] 3 0
    rw [World.size_alloc] at this; exact this
  · rw [World.cell?_alloc_new]; rfl

section
variable {w V : World} {b pd : Nat} {L : Lay} {i kind : Int} {A0 : Ab}

/-- The same where the closure runs. -/
theorem Begun.boxed (B : Begun w V b pd L i kind A0) (word : Int) : (boxed V word).cell? ⟨w.heap.size, 0, none⟩ = some (.int .i64 i) ∧ (boxed V word).cell? ⟨w.heap.size + 1, 0, none⟩ = some (.int .i64 kind) ∧ (boxed V word).cell? ⟨pd, 0, none⟩ = some (ptr b) :=
  ⟨(boxed_fr V word).cell' B.ci (fun h => h), (boxed_fr V word).cell' B.ck (fun h => h), (boxed_fr V word).cell' B.cd (fun h => h)⟩

theorem Begun.later (B : Begun w V b pd L i kind A0) {w2 : World} {A : Ab} (a : At V b (foot b L) noG w2 A) : w2.cell? ⟨w.heap.size, 0, none⟩ = some (.int .i64 i) ∧ w2.cell? ⟨w.heap.size + 1, 0, none⟩ = some (.int .i64 kind) ∧ w2.cell? ⟨pd, 0, none⟩ = some (ptr b) :=
  ⟨a.cell B.ci (fun h => by have : w.heap.size + 2 ≤ w.heap.size := (B.new _ h).1; omega) rfl, a.cell B.ck (fun h => by have : w.heap.size + 2 ≤ w.heap.size + 1 := (B.new _ h).1; omega) rfl, a.cell B.cd (fun h => (B.new _ h).2 rfl) rfl⟩

theorem Begun.next (B : Begun w V b pd L i kind A0) {w2 : World} {A : Ab} (a : At V b (foot b L) noG w2 A) : ∃ L2, Begun w w2 b pd L2 i kind A := by
  obtain ⟨L2, d2, hL2⟩ := a.ex
  obtain ⟨c1, c2, c3⟩ := B.later a
  have hs := a.fr.size
  have hV := B.fr.size
  have h2 : w.heap.size + 1 < V.heap.size := World.block_lt_of_cell? _ _ B.ck
  refine ⟨L2, d2, ?_, fun k hk => ?_, c1, c2, c3, Nat.lt_of_lt_of_le B.lt hs⟩
  · exact B.fr.trans' a.fr (fun k hk => by
      rcases hk with h | h
      · exact .inr (by have := (B.new k h).1; omega)
      · cases h)
  · have := B.lt
    rcases hL2 k hk with h | h
    · exact B.new k h
    · exact ⟨by omega, by omega⟩

theorem Begun.all (B : Begun w V b pd L i kind A0) {w2 : World} {A : Ab} (a : At V b (foot b L) noG w2 A) : Fr (fun _ => False) w w2 :=
  B.fr.trans' a.fr (fun k hk => by
    rcases hk with h | h
    · exact .inr (by have := (B.new k h).1; omega)
    · cases h)

theorem wrong_told_out (B : Begun w V b pd L i kind A0) (hn : A0.n = 2) (hi : i < 0 ∨ 15 < i) :
    Calls Try.prog 10 #[.int .i64 i, .func (.func 22) #[] #[ptr (w.heap.size + 1), ptr pd, ptr w.heap.size]] V fun e w' => e = .returned (.int .i64 2) ∧ At V b (foot b L) noG w' A0 := by
  refine (tell_wrong (word := i) (first := #[]) (cap := #[ptr (w.heap.size + 1), ptr pd, ptr w.heap.size]) enters22 B.dev (G := noG) (fun A' G' => A' = A0 ∧ G' = noG) (fun k o e => by cases e) (fun A' G' p k => by rw [p.2]) (fun a => ?_)).mono ?_
  · obtain ⟨c1, c2, c3⟩ := B.boxed i
    refine (wrong1_wrong a c2 c3 c1 (by rw [hn]; omega)).mono ?_
    rintro e w' ⟨rfl, rfl⟩
    exact ⟨rfl, _, _, ⟨rfl, rfl⟩, a⟩
  · rintro e w' ⟨rfl, A', G', ⟨rfl, rfl⟩, a⟩
    exact ⟨rfl, a⟩

theorem wrong_told_in (B : Begun w V b pd L i kind (Ab.fresh 2)) (h0 : 0 ≤ i) (hi : i ≤ 15) :
    Calls Try.prog 10 #[.int .i64 i, .func (.func 22) #[] #[ptr (w.heap.size + 1), ptr pd, ptr w.heap.size]] V fun e w' => e = .returned (.int .i64 0) ∧ ∃ A, At V b (foot b L) noG w' A := by
  obtain ⟨j, rfl⟩ : ∃ j : Nat, i = j := ⟨i.toNat, by omega⟩
  refine (tell_ok (word := j) (first := #[]) (cap := #[ptr (w.heap.size + 1), ptr pd, ptr w.heap.size]) enters22 B.dev (G := noG) (fun A' G' => G' = noG) (fun k o e => by cases e) (fun A' G' p k => by rw [p]) (fun a => ?_)).mono ?_
  · obtain ⟨c1, c2, c3⟩ := B.boxed j
    refine (wrong1_ok a ⟨rfl, by decide, by decide, by decide⟩ (by decide) c2 c3 j c1 (by simp only [Ab.fresh]; omega)).mono ?_
    rintro e w' ⟨rfl, A', ha⟩
    exact ⟨⟨_, rfl⟩, _, _, rfl, ha⟩
  · rintro e w' ⟨rfl, A', G', rfl, a⟩
    exact ⟨rfl, A', a⟩

theorem wrong_told_dead (B : Begun w V b pd L i kind A0) (hn : A0.n = 2) (hd : A0.dead = true) (h0 : 0 ≤ i) (hi : i ≤ 15) :
    Calls Try.prog 10 #[.int .i64 i, .func (.func 22) #[] #[ptr (w.heap.size + 1), ptr pd, ptr w.heap.size]] V fun e w' => e = .returned (.int .i64 1) ∧ At V b (foot b L) noG w' A0 := by
  refine (tell_lost (word := i) (first := #[]) (cap := #[ptr (w.heap.size + 1), ptr pd, ptr w.heap.size]) enters22 B.dev (G := noG) (fun A' G' => A' = A0 ∧ G' = noG) (fun k o e => by cases e) (fun A' G' p k => by rw [p.2]) (fun a => ?_)).mono ?_
  · obtain ⟨c1, c2, c3⟩ := B.boxed i
    refine (wrong1_lost a c2 c3 c1 h0 (by rw [hn]; omega) hd).mono ?_
    rintro e w' ⟨rfl, ha⟩
    exact ⟨rfl, _, _, ⟨rfl, rfl⟩, ha⟩
  · rintro e w' ⟨rfl, A', G', ⟨rfl, rfl⟩, a⟩
    exact ⟨rfl, a⟩

/-- The fence of a burnt fuse. -/
theorem wrong_told_fence (B : Begun w V b pd L i kind A0) (hf : A0.fuse = 0) :
    Calls Try.prog 10 #[.int .i64 0, .func (.func 14) #[ptr b] #[]] V fun e w' => e = .returned (.int .i64 1) ∧ At V b (foot b L) noG w' { A0 with dead := true } := by
  refine (tell_lost (word := 0) (first := #[ptr b]) (cap := #[]) enters14 B.dev (G := noG) (fun A' G' => A' = { A0 with dead := true } ∧ G' = noG) (fun k o e => by cases e) (fun A' G' p k => by rw [p.2]) (fun a => ?_)).mono ?_
  · obtain ⟨L', d, hL⟩ := a.ex
    refine (fence_lost d (.inr hf)).mono ?_
    rintro e w' ⟨rfl, d', f'⟩
    exact ⟨rfl, _, _, ⟨rfl, rfl⟩, a.step hL d' f' (fun _ => .inl)⟩
  · rintro e w' ⟨rfl, A', G', ⟨rfl, rfl⟩, a⟩
    exact ⟨rfl, a⟩

theorem wrong_fused (B : Begun w V b pd L i kind A0) :
    Calls Try.prog 21 #[ptr b, .int .i64 0] V fun e w' => e = .returned (.tuple #[]) ∧ At V b (foot b L) noG w' { A0 with fuse := 0 } := by
  refine (fuse_any b 0 A0.fuse V B.dev.c5 (B.dev.zb 5)).mono ?_
  rintro e w' ⟨rfl, rfl⟩
  have a := At.start B.dev noG (fun k o e => by cases e)
  exact ⟨rfl, a.step (fun _ => .inl) (B.dev.setFuse 0) ((Fr.refl _ V).setCell (.inl (.inl rfl)) _) (fun _ => .inl)⟩
end


set_option maxHeartbeats 1000000 in
theorem wrong_out (i kind : Int) (w : World) (hi : i < 0 ∨ 15 < i) :
    Calls Try.prog 5 #[.int .i64 i, .int .i64 kind, .bool false] w fun e w' => e = .returned (.bool true) ∧ Fr (fun _ => False) w w' := by
  have hmf : ∀ (fn : Fn) (first cap : Array Value) (w : World), (Instr.makeFunc fn first cap).run Try.prog w = .ok (.func fn first cap) w := fun _ _ _ _ => rfl
  have K1 := new_two ((w.alloc (.cells #[.int .i64 i] 3)).alloc (.cells #[.int .i64 kind] 3))
  have HI := hide hi
  clear hi
  go_enter Try.func5, Try.ntmps5
  go_wp2_with fail
  refine K1.mono ?_
  rintro e w1 ⟨rfl, L, d1, f1, s1⟩
  simp only [World.size_alloc] at d1 s1
  have B := begun d1 f1 s1
  have BB := hide B
  have ci := B.ci
  have K2 := wrong_told_out B rfl (unhide HI)
  clear d1 f1 s1 K1 B
  go_wp2_with fail
  refine K2.mono ?_
  rintro e w2 ⟨rfl, a2⟩
  obtain ⟨ci2, ck2, cd2⟩ := (unhide BB).later a2
  have K3 : Calls Try.prog 23 #[ptr (w.heap.size + 1 + 1 + 3)] w2 fun e w' => e = .returned (.int .i64 0) ∧ w' = w2 := at_steps a2
  have K4 := at_waits_none a2 (fun j => rfl)
  clear K2 a2 ci
  have hI := unhide HI
  by_cases hneg : i < 0
  · clear hI
    go_wp2_with fail
    refine K3.mono ?_
    rintro e w3 ⟨rfl, rfl⟩
    go_wp2_with fail
    refine K4.mono ?_
    rintro e w4 ⟨⟨va, cap, rfl⟩, a4⟩
    have f4 := (unhide BB).all a4
    have K5 := awake_ok w4
    have F4 := hide f4
    clear a4 f4 K3 K4
    go_wp2_with fail
    refine K5.mono ?_
    rintro e w5 ⟨rfl, f5⟩
    have F5 := hide f5
    clear f5 K5
    go_wp2
    go_ret
    exact ⟨rfl, (unhide F4).trans (unhide F5)⟩
  · have hpos : 15 < i := by omega
    clear hI
    go_wp2_with fail
    refine K3.mono ?_
    rintro e w3 ⟨rfl, rfl⟩
    go_wp2_with fail
    refine K4.mono ?_
    rintro e w4 ⟨⟨va, cap, rfl⟩, a4⟩
    have f4 := (unhide BB).all a4
    have K5 := awake_ok w4
    have F4 := hide f4
    clear a4 f4 K3 K4
    go_wp2_with fail
    refine K5.mono ?_
    rintro e w5 ⟨rfl, f5⟩
    have F5 := hide f5
    clear f5 K5
    go_wp2
    go_ret
    exact ⟨rfl, (unhide F4).trans (unhide F5)⟩

set_option maxHeartbeats 1000000 in
theorem wrong_in (i kind : Int) (w : World) (hi : 0 ≤ i ∧ i ≤ 15) :
    Calls Try.prog 5 #[.int .i64 i, .int .i64 kind, .bool false] w fun e w' => e = .returned (.bool true) ∧ Fr (fun _ => False) w w' := by
  have hmf : ∀ (fn : Fn) (first cap : Array Value) (w : World), (Instr.makeFunc fn first cap).run Try.prog w = .ok (.func fn first cap) w := fun _ _ _ _ => rfl
  have K1 := new_two ((w.alloc (.cells #[.int .i64 i] 3)).alloc (.cells #[.int .i64 kind] 3))
  have HI := hide hi
  clear hi
  go_enter Try.func5, Try.ntmps5
  go_wp2_with fail
  refine K1.mono ?_
  rintro e w1 ⟨rfl, L, d1, f1, s1⟩
  simp only [World.size_alloc] at d1 s1
  have B := begun d1 f1 s1
  have BB := hide B
  have ci := B.ci
  have K2 := wrong_told_in B (unhide HI).1 (unhide HI).2
  clear d1 f1 s1 K1 B
  go_wp2_with fail
  refine K2.mono ?_
  rintro e w2 ⟨rfl, A2, a2⟩
  obtain ⟨ci2, ck2, cd2⟩ := (unhide BB).later a2
  have f2 := (unhide BB).all a2
  have F2 := hide f2
  have K5 := awake_ok w2
  obtain ⟨hn1, hn2⟩ := unhide HI
  have hn3 : ¬ i < 0 := by omega
  have hn4 : ¬ 15 < i := by omega
  clear K2 a2 f2 ci
  go_wp2_with fail
  refine K5.mono ?_
  rintro e w5 ⟨rfl, f5⟩
  have F5 := hide f5
  clear f5 K5
  go_wp2
  go_ret
  exact ⟨rfl, (unhide F2).trans (unhide F5)⟩

set_option maxHeartbeats 1000000 in
theorem wrong_dead_out (i kind : Int) (w : World) (hi : i < 0 ∨ 15 < i) :
    Calls Try.prog 5 #[.int .i64 i, .int .i64 kind, .bool true] w fun e w' => e = .returned (.bool true) ∧ Fr (fun _ => False) w w' := by
  have hmf : ∀ (fn : Fn) (first cap : Array Value) (w : World), (Instr.makeFunc fn first cap).run Try.prog w = .ok (.func fn first cap) w := fun _ _ _ _ => rfl
  have K1 := new_two ((w.alloc (.cells #[.int .i64 i] 3)).alloc (.cells #[.int .i64 kind] 3))
  have HI := hide hi
  clear hi
  go_enter Try.func5, Try.ntmps5
  go_wp2_with fail
  refine K1.mono ?_
  rintro e w1 ⟨rfl, L, d1, f1, s1⟩
  simp only [World.size_alloc] at d1 s1
  have B := begun d1 f1 s1
  have BB := hide B
  have ci := B.ci
  have KF := wrong_fused B
  have cdd := B.cd
  clear d1 f1 s1 K1 B
  go_wp2_with fail
  refine KF.mono ?_
  rintro e wf ⟨rfl, af⟩
  obtain ⟨LF, BF⟩ := (unhide BB).next af
  have BFH := hide BF
  have cif := BF.ci
  have cdf := BF.cd
  have KG := wrong_told_fence BF rfl
  clear KF af BF ci cdd BB
  go_wp2_with fail
  refine KG.mono ?_
  rintro e wg ⟨rfl, ag⟩
  obtain ⟨LG, BG⟩ := (unhide BFH).next ag
  have BB := hide BG
  have cig := BG.ci
  have cdg := BG.cd
  clear KG ag BFH cif cdf
  have K2 := wrong_told_out BG rfl (unhide HI)
  clear BG
  go_wp2_with fail
  refine K2.mono ?_
  rintro e w2 ⟨rfl, a2⟩
  obtain ⟨ci2, ck2, cd2⟩ := (unhide BB).later a2
  have K3 : Calls Try.prog 23 #[ptr (w.heap.size + 1 + 1 + 3)] w2 fun e w' => e = .returned (.int .i64 0) ∧ w' = w2 := at_steps a2
  have K4 := at_waits_none a2 (fun j => rfl)
  clear K2 a2 cig cdg
  have hI := unhide HI
  by_cases hneg : i < 0
  · clear hI
    go_wp2_with fail
    refine K3.mono ?_
    rintro e w3 ⟨rfl, rfl⟩
    go_wp2_with fail
    refine K4.mono ?_
    rintro e w4 ⟨⟨va, cap, rfl⟩, a4⟩
    have f4 := (unhide BB).all a4
    have K5 := awake_ok w4
    have F4 := hide f4
    clear a4 f4 K3 K4
    go_wp2_with fail
    refine K5.mono ?_
    rintro e w5 ⟨rfl, f5⟩
    have F5 := hide f5
    clear f5 K5
    go_wp2
    go_ret
    exact ⟨rfl, (unhide F4).trans (unhide F5)⟩
  · have hpos : 15 < i := by omega
    clear hI
    go_wp2_with fail
    refine K3.mono ?_
    rintro e w3 ⟨rfl, rfl⟩
    go_wp2_with fail
    refine K4.mono ?_
    rintro e w4 ⟨⟨va, cap, rfl⟩, a4⟩
    have f4 := (unhide BB).all a4
    have K5 := awake_ok w4
    have F4 := hide f4
    clear a4 f4 K3 K4
    go_wp2_with fail
    refine K5.mono ?_
    rintro e w5 ⟨rfl, f5⟩
    have F5 := hide f5
    clear f5 K5
    go_wp2
    go_ret
    exact ⟨rfl, (unhide F4).trans (unhide F5)⟩

set_option maxHeartbeats 1000000 in
theorem wrong_dead_in (i kind : Int) (w : World) (hi : 0 ≤ i ∧ i ≤ 15) :
    Calls Try.prog 5 #[.int .i64 i, .int .i64 kind, .bool true] w fun e w' => e = .returned (.bool true) ∧ Fr (fun _ => False) w w' := by
  have hmf : ∀ (fn : Fn) (first cap : Array Value) (w : World), (Instr.makeFunc fn first cap).run Try.prog w = .ok (.func fn first cap) w := fun _ _ _ _ => rfl
  have K1 := new_two ((w.alloc (.cells #[.int .i64 i] 3)).alloc (.cells #[.int .i64 kind] 3))
  have HI := hide hi
  clear hi
  go_enter Try.func5, Try.ntmps5
  go_wp2_with fail
  refine K1.mono ?_
  rintro e w1 ⟨rfl, L, d1, f1, s1⟩
  simp only [World.size_alloc] at d1 s1
  have B := begun d1 f1 s1
  have BB := hide B
  have ci := B.ci
  have KF := wrong_fused B
  have cdd := B.cd
  clear d1 f1 s1 K1 B
  go_wp2_with fail
  refine KF.mono ?_
  rintro e wf ⟨rfl, af⟩
  obtain ⟨LF, BF⟩ := (unhide BB).next af
  have BFH := hide BF
  have cif := BF.ci
  have cdf := BF.cd
  have KG := wrong_told_fence BF rfl
  clear KF af BF ci cdd BB
  go_wp2_with fail
  refine KG.mono ?_
  rintro e wg ⟨rfl, ag⟩
  obtain ⟨LG, BG⟩ := (unhide BFH).next ag
  have BB := hide BG
  have cig := BG.ci
  have cdg := BG.cd
  clear KG ag BFH cif cdf
  have K2 := wrong_told_dead BG rfl rfl (unhide HI).1 (unhide HI).2
  clear BG
  go_wp2_with fail
  refine K2.mono ?_
  rintro e w2 ⟨rfl, a2⟩
  obtain ⟨ci2, ck2, cd2⟩ := (unhide BB).later a2
  have K3 : Calls Try.prog 23 #[ptr (w.heap.size + 1 + 1 + 3)] w2 fun e w' => e = .returned (.int .i64 0) ∧ w' = w2 := at_steps a2
  have K4 := at_waits_none a2 (fun j => rfl)
  obtain ⟨hn1, hn2⟩ := unhide HI
  have hn3 : ¬ i < 0 := by omega
  have hn4 : ¬ 15 < i := by omega
  clear K2 a2 cig cdg
  go_wp2_with fail
  refine K3.mono ?_
  rintro e w3 ⟨rfl, rfl⟩
  go_wp2_with fail
  refine K4.mono ?_
  rintro e w4 ⟨⟨va, cap, rfl⟩, a4⟩
  have f4 := (unhide BB).all a4
  have K5 := awake_ok w4
  have F4 := hide f4
  clear a4 f4 K3 K4
  go_wp2_with fail
  refine K5.mono ?_
  rintro e w5 ⟨rfl, f5⟩
  have F5 := hide f5
  clear f5 K5
  go_wp2
  go_ret
  exact ⟨rfl, (unhide F4).trans (unhide F5)⟩
end Go.Proofs.Ytmhlbhbakfcdeaa
