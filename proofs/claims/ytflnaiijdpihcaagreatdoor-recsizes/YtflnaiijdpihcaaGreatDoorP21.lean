/- Joined: SizesW. -/
import Derived.Test.YtflnaiijdpihcaaGreatDoorP19
import Derived.Test.YtflnaiijdpihcaaGreatDoorP20
namespace Go.Proofs.YtflnaiijdpihcaaGreatDoor
open Go.RowKit

section
theorem make_bytesX (n : Nat) (hn : n ≤ 1000000) (w : World) : (Instr.makeSlice 30 (.int .i64 (n : Int)) (.int .i64 (n : Int))).run Tryz.prog w = .ok (.slice (some ⟨w.heap.size, 0, none⟩) n n) (w.alloc (.cells (madeCells #[.int .u8 0] n) 5)) :=
  run_make_row' 30 5 (.int .u8 0) 1 Tryz.underlying30 infoB rfl .i64 .i64 n (by omega) (by omega) w

theorem mod42 (a : Int) : ∃ M : Nat, (wrap64 (a.tmod 4200 + 4200)).tmod 4200 = (M : Int) ∧ M < 4200 := by
  have h1 : a.tmod 4200 < 4200 := Int.tmod_lt_of_pos a (by omega)
  have h2 : -4200 < a.tmod 4200 := Int.lt_tmod_of_pos a (by omega)
  generalize a.tmod 4200 = r at *
  rw [small_w64 (by omega), Int.tmod_eq_emod_of_nonneg (by omega)]
  exact ⟨((r + 4200) % 4200).toNat, by omega, by omega⟩

set_option maxRecDepth 20000 in
set_option maxHeartbeats 8000000 in
theorem sizes_ok (a0 a1 : Int) (w : World) (tab : TabL w) :
    Calls Tryz.prog 4 #[.int .i64 a0, .int .i64 a1] w fun e w' => e = .returned (.bool true) ∧ Below w.heap.size w w' := by
  have K : Calls Tryz.prog 9 #[.int .i64 16384] w _ := l8_open geo16 (N := 2048) (by omega) w tab
  have h1 := eq_nil_heap
  have h2 := mf
  have HK := hide K; have HT := hide tab
  clear K tab
  go_enter Tryz.func4, Tryz.ntmps4
  go_wp2_with fail
  refine (unhide HK).mono ?_
  clear HK
  rintro e w1 ⟨b, sb, hb, T, A, base, rfl, hc, nw⟩
  obtain ⟨W1, hW1⟩ : ∃ W1, w1.alloc (.cells #[ptr sb] 24) = W1 := ⟨_, rfl⟩
  obtain ⟨W2, hW2⟩ : ∃ W2, W1.alloc (.cells #[ptr hb] 25) = W2 := ⟨_, rfl⟩
  obtain ⟨n1, hn1⟩ : ∃ n1, w1.heap.size = n1 := ⟨_, rfl⟩
  have z1 : W1.heap.size = n1 + 1 := by rw [← hW1]; simp [hn1]
  have z2 : W2.heap.size = n1 + 2 := by rw [← hW2]; simp; omega
  have f12 : Still W1 W2 := hW2 ▸ (Fr.refl _ W1).alloc _
  have hc1 := hc.more (.cells #[ptr sb] 24)
  rw [hW1, hn1] at hc1
  have hc2 := hc1.more (.cells #[ptr hb] 25)
  rw [hW2, z1] at hc2
  have bs2 : Box W2 n1 (ptr sb) := by
    have := Box.new w1 (ptr sb) 24
    rw [hW1, hn1] at this; exact this.kept f12 (fun x => x)
  have bh2 : Box W2 (n1 + 1) (ptr hb) := by
    have := Box.new W1 (ptr hb) 25
    rw [hW2, z1] at this; exact this
  have lhb : hb < n1 := by rw [← hn1]; exact (hc.hd.xl hb hc.xh).2
  have l0 : 0 < n1 := by rw [← hn1]; exact Nat.lt_of_lt_of_le hc.l0 hc.hd.fr.size
  have sy := hc.says []
  rw [homed_nil] at sy
  have FR := h_free hc2.toHp.hp hc2.toHp.reads 3824 (by omega) (by rw [sy]; exact nw.st.free0 nw.ak)
  have bhc := bh2.c
  have HFR := hide FR; have HC2 := hide hc2; have HBB := hide (And.intro bs2 bh2); have HNW := hide (And.intro nw sy)
  have HW := hide (And.intro hW1 hW2)
  rw [← hW2, ← hW1] at bhc
  have HFW := hide hc.hd.fr
  clear FR hc hc1 hc2 bs2 bh2 nw sy f12 hW1 hW2
  go_wp2_with fail
  rw [(unhide HW).1, (unhide HW).2]
  refine (unhide HFR).mono ?_
  clear HFR bhc
  rintro e w' ⟨rfl, hh⟩
  replace hh := hh.symm
  subst hh
  obtain ⟨M, hM, hM4⟩ := mod42 a0
  have MB := make_bytesX M (by omega) W2
  obtain ⟨W3, hW3⟩ : ∃ W3, W2.alloc (.cells (madeCells #[.int .u8 0] M) 5) = W3 := ⟨_, rfl⟩
  have mm3 := make_mem .u8 W2 M 5
  rw [hW3] at MB mm3
  rw [z2] at MB mm3
  have z3 : W3.heap.size = n1 + 3 := by rw [← hW3]; simp; omega
  obtain ⟨W4, hW4⟩ : ∃ W4, W3.alloc (.cells #[.slice (some ⟨n1 + 2, 0, none⟩) M M] 30) = W4 := ⟨_, rfl⟩
  have f23 : Still W2 W3 := hW3 ▸ (Fr.refl _ W2).alloc _
  have f34 : Still W3 W4 := hW4 ▸ (Fr.refl _ W3).alloc _
  have bb4 : Box W4 (n1 + 3) (.slice (some ⟨n1 + 2, 0, none⟩) M M) := by
    have := Box.new W3 (.slice (some ⟨n1 + 2, 0, none⟩) M M) 30
    rw [hW4, z3] at this; exact this
  have mm4 : Mem .u8 W2 (n1 + 2) M (fun _ => 0) W4 := ⟨fun i hi => f34.cell' (mm3.cell i hi) (fun x => x), fun i => by have := mm3.fz i; unfold World.frozen? at *; rw [f34.block (n1 + 2) (by omega) (fun x => x)]; exact this, mm3.bel.trans ⟨f34.os, f34.tape, f34.output, f34.size, fun k hk => f34.block k (by omega) (fun x => x)⟩, mm3.ge⟩
  have hc3 := (unhide HC2).more (.cells (madeCells #[.int .u8 0] M) 5)
  rw [hW3, z2] at hc3
  have hc4 := hc3.more (.cells #[.slice (some ⟨n1 + 2, 0, none⟩) M M] 30)
  rw [hW4, z3] at hc4
  have f24 : Still W2 W4 := f23.trans' f34 (fun _ x => x.elim)
  have bs4 := (unhide HBB).1.kept f24 (fun x => x); have bh4 := (unhide HBB).2.kept f24 (fun x => x)
  have z4 : W4.heap.size = n1 + 4 := by rw [← hW4]; simp; omega
  have HX4 := hide (And.intro mm4 (And.intro hc4 (And.intro bs4 (And.intro bh4 bb4)))); have HW4 := hide hW4
  have bb4c := bb4.c
  rw [← hW4] at bb4c
  clear mm3 mm4 hc3 hc4 bs4 bh4 bb4 f23 f34 f24 hW3 hW4
  go_wp2_with fail
  rw [unhide HW4]
  go_loopw [10, 34] (fun xv iv wr => ∃ (m : Nat) (x : Int) (bt : Nat → Nat), m ≤ M ∧ iv = .int .i64 m ∧ xv = .int .u32 x ∧ (0 ≤ x ∧ x < 4294967296) ∧ (∀ i, bt i < 256) ∧ Mem .u8 W2 (n1 + 2) M bt wr ∧ Fr (fun k => k = n1 + 2) W4 wr) (fun xv iv wr => M - (intOf iv).toNat)
  case atStart =>
    obtain ⟨mm4, hc4, bs4, bh4, bb4⟩ := unhide HX4
    exact ⟨0, _, fun _ => 0, by omega, rfl, rfl, by constructor <;> omega, fun _ => by show 0 < 256; omega, mm4, Fr.refl _ _⟩
  case round =>
    obtain ⟨m, x, bt, hm, rfl, rfl, hx, hbt, mm, fr⟩ := hrel
    obtain ⟨mm4, hc4, bs4, bh4, bb4⟩ := unhide HX4
    generalize wr = wq at *
    clear wr
    have bbq := bb4.kept fr (by show ¬ n1 + 3 = n1 + 2; omega)
    have cb := bbq.c
    by_cases hlt : m < M
    · have hlt' : ((m : Int) < M) = True := by simp; omega
      have cm := mm.cell m hlt
      have fz := mm.fz m
      have HMM := hide (And.intro mm fr); have HBT := @hide _ hbt
      clear mm fr mm4 hc4 bs4 bh4 bb4 hbt bbq
      go_wp2
      obtain ⟨mm, fr⟩ := unhide HMM
      obtain ⟨y, hy⟩ : ∃ y : Nat, (x * 1664525 + 1013904223) % 4294967296 / 16777216 = (y : Int) := ⟨((x * 1664525 + 1013904223) % 4294967296 / 16777216).toNat, by omega⟩
      have hy2 : y < 256 := by omega
      rw [hy]
      exact ⟨⟨m + 1, _, fun j => if j = m then y else bt j, by omega, by go_num, rfl, by constructor <;> omega, fun j => by show (if j = m then y else bt j) < 256; have := unhide HBT j; split <;> omega, mm.set m y hlt, fr.setCell (.inl rfl) _⟩, by simp [intOf]; omega⟩
    · have em : m = M := by omega
      subst em
      have hlt' : ((m : Int) < m) = False := by simp
      obtain ⟨nw, sy⟩ := unhide HNW
      have lq : n1 + 4 ≤ wq.heap.size := by have := fr.size; omega
      obtain ⟨q, hq⟩ : ∃ q, wq.heap.size = q := ⟨_, rfl⟩
      rw [hq] at lq
      obtain ⟨W5, hW5⟩ : ∃ W5, wq.alloc (.cells #[.int .i64 0] 3) = W5 := ⟨_, rfl⟩
      have f5 : Still wq W5 := hW5 ▸ (Fr.refl _ wq).alloc _
      have hcq := hc4.var fr (fun k hk => by have hk : k = n1 + 2 := hk; exact .inl (.inr hk)) (by show ¬ hb = n1 + 2; omega)
      have hc5 := hcq.more (.cells #[.int .i64 0] 3)
      rw [hW5, hq] at hc5
      have bsq := bs4.kept fr (by show ¬ n1 = n1 + 2; omega); have bhq := bh4.kept fr (by show ¬ n1 + 1 = n1 + 2; omega)
      have bs5 := bsq.kept f5 (fun x => x); have bh5 := bhq.kept f5 (fun x => x); have bb5 := bbq.kept f5 (fun x => x)
      have ba5 : Box W5 q (.int .i64 0) := by
        have := Box.new wq (.int .i64 0) 3
        rw [hW5, hq] at this; exact this
      have nt5 := mm.nats.fr f5 (fun _ _ x => x)
      have DO := hc5.do_ (V := fun k => k = q) (g := 18) (fi := #[]) (ca := #[ptr n1, ptr (n1 + 1), ptr (n1 + 3), ptr q]) (R := fun h P' w' => (h = .well ∧ m ≤ 4096 ∧ MadeAt 478 3984 (rb base) A m bt q P' w') ∨ (h = .errno 5 ∧ 4096 < m))
        (fun k hk => .inr hk) (by omega) (by
          rintro h P w w' F (⟨e, n4, u, us, bx, rc, md⟩ | e) hf hn
          · exact .inl ⟨e, n4, u, us, bx.kept hf (hn q rfl), rc, md⟩
          · exact .inr e) (fun w3 f3 => acts_of (fun _ _ => by kernel_rfl) ((szC1 (hc5.toHp.still f3) (by rw [sy]; exact nw.st) (nt5.fr f3 (fun _ _ x => x)) (fun i _ => hbt i) (by simp) (fun x hx => by injection hx with hx; rw [← hx]; exact hc5.hd.ap _ (.inl (.inl (.inr rfl)))) (by rw [sy]; exact nw.room) (f3.cell' bs5.c (fun x => x)) (f3.cell' bh5.c (fun x => x)) (f3.cell' bb5.c (fun x => x)) (ba5.kept f3 (fun x => x)) (hc5.hd.ap _ (.inr rfl))).mono (by
          rintro e w4 (⟨n4, rfl, T', P', o, md⟩ | ⟨n4, rfl, hh⟩)
          · rw [sy] at md
            exact ⟨.well, rfl, .inl rfl, T', P', o, .inl ⟨rfl, n4, md⟩⟩
          · subst hh
            exact ⟨.errno 5, How.ended_one _ _, .inr ⟨5, rfl⟩, T, [], OnxX.of (Onx.start (hc5.toHp.still f3).st), .inr ⟨rfl, n4⟩⟩))) (by omega)
      have bsc := bs5.c
      rw [← hW5] at bsc
      have HDO := hide DO; have HX5 := hide (And.intro hc5 (And.intro bs5 (And.intro bh5 bb5))); have HN5 := hide nt5; have HW5 := hide hW5; have HBT := @hide _ hbt; have HNN := hide (And.intro nw sy)
      clear DO hc5 hcq hc4 bs4 bh4 bb4 bsq bhq bbq bs5 bh5 bb5 ba5 nt5 hW5 f5 mm mm4 fr hbt nw sy cb
      go_wp2_with fail
      rw [unhide HW5]
      unfold DidH at HDO
      refine (unhide HDO).mono ?_
      clear HDO bsc
      rintro e w6 ⟨fr6, ⟨P', T', A', r6, rfl, hc6⟩ | ⟨i, P', T', r6, rfl, hc6⟩⟩
      · rcases r6 with ⟨_, n4, u, us, ba6, rc, md⟩ | ⟨he, _⟩
        · obtain ⟨hc5, bs5, bh5, bb5⟩ := unhide HX5
          obtain ⟨nw, sy⟩ := unhide HNN
          have bs6 := hc5.box fr6 (.inl (.inl (.inl (.inl (.inr rfl))))) (by omega) bs5
          have bh6 := hc5.box fr6 (.inl (.inl (.inl (.inr rfl)))) (by omega) bh5
          have bb6 := hc5.box fr6 (.inl (.inr rfl)) (by omega) bb5
          have nt6 := (unhide HN5).fr fr6 (fun x hx => by
            injection hx with hx
            rw [← hx]
            rintro (e | e)
            · exact hc5.hd.ap _ (.inl (.inl (.inr rfl))) e
            · have e : n1 + 2 = q := e; omega)
          have sy6 := hc6.says []
          rw [homed_nil, ← hc5.says P'] at sy6
          have lq6 := ba6.lt
          obtain ⟨r, hr⟩ : ∃ r, w6.heap.size = r := ⟨_, rfl⟩
          rw [hr] at lq6
          obtain ⟨W7, hW7⟩ : ∃ W7, w6.alloc (.cells #[.bool false] 4) = W7 := ⟨_, rfl⟩
          have f7 : Still w6 W7 := hW7 ▸ (Fr.refl _ w6).alloc _
          have hc7 := hc6.more (.cells #[.bool false] 4)
          rw [hW7, hr] at hc7
          have bo7 : Box W7 r (.bool false) := by
            have := Box.new w6 (.bool false) 4
            rw [hW7, hr] at this; exact this
          have bs7 := bs6.kept f7 (fun x => x); have bh7 := bh6.kept f7 (fun x => x); have bb7 := bb6.kept f7 (fun x => x); have ba7 := ba6.kept f7 (fun x => x)
          have nt7 := nt6.fr f7 (fun _ _ x => x)
          have DO2 := hc7.do_ (V := fun k => k = r) (g := 19) (fi := #[]) (ca := #[ptr n1, ptr (n1 + 1), ptr q, ptr (n1 + 3), ptr r]) (R := fun h P2 w' => h = .well ∧ Box w' r (.bool true) ∧ Dropped 478 (says P' A) u us (says P2 A'))
            (fun k hk => .inr hk) (by omega) (by
              rintro h P w w' F ⟨e, bx, dr⟩ hf hn
              exact ⟨e, bx.kept hf (hn r rfl), dr⟩) (fun w3 f3 => acts_of (fun _ _ => by kernel_rfl) ((szC2 (hc7.toHp.still f3) (by rw [sy6]; exact md.st) (nt7.fr f3 (fun _ _ x => x)) (fun i _ => unhide HBT i) (by simp) (by rw [sy6]; exact rc) (f3.cell' bs7.c (fun x => x)) (f3.cell' bh7.c (fun x => x)) (f3.cell' bb7.c (fun x => x)) (f3.cell' ba7.c (fun x => x)) (bo7.kept f3 (fun x => x)) (hc7.hd.ap _ (.inr rfl)) (by omega) ⟨by omega, fun x hx => by injection hx with hx; rw [← hx]; show n1 + 2 ≠ r; omega⟩).mono (by
              rintro e w4 ⟨rfl, T2, P2, o, bx, dr⟩
              rw [sy6] at dr
              exact ⟨.well, rfl, .inl rfl, T2, P2, o, rfl, bx, dr⟩))) (by omega)
          have c1 := bb6.c; have c2 := bs7.c
          have hm4 : ((4096 : Int) < m) = False := by simp; omega
          have HDO2 := hide DO2; have HX7 := hide (And.intro hc7 (And.intro bh7 (And.intro md sy6))); have HW7 := hide hW7
          rw [← hW7] at c2
          clear DO2 hc7 hc6 hc5 bs5 bh5 bb5 bs6 bh6 bb6 bs7 bh7 bb7 ba7 ba6 bo7 nt6 nt7 f7 md rc hW7 fr6 nw sy sy6 HX5 HN5
          go_wp2_with fail
          rw [unhide HW7]
          unfold DidH at HDO2
          refine (unhide HDO2).mono ?_
          clear HDO2 c1 c2
          rintro e w8 ⟨fr8, ⟨P2, T2, A2, ⟨_, bo8, dr⟩, rfl, hc8⟩ | ⟨i, P2, T2, ⟨hq2, _⟩, _⟩⟩
          · obtain ⟨hc7, bh7, md, sy6⟩ := unhide HX7
            obtain ⟨nw, sy⟩ := unhide HNN
            have bh8 := hc7.box fr8 (.inl (.inl (.inl (.inl (.inr rfl))))) (by omega) bh7
            have sy8 := hc8.says []
            rw [homed_nil, ← hc7.says P2] at sy8
            have e0 : ask 478 (says P2 A') = fun _ => 0 := by rw [md.gone dr]; exact nw.ak
            have FR8 := h_free hc8.toHp.hp hc8.toHp.reads 3824 (by omega) (by rw [sy8]; exact dr.st.free0 e0)
            have PC8 := h_pieces hc8.toHp (by rw [sy8]; exact dr.st)
            rw [sy8, e0, cnt_none] at PC8
            have AW : ∀ w9, Still w8 w9 → Calls Tryz.prog 10 #[] w9 fun e w' => e = .returned (.bool true) ∧ Still w9 w' := fun w9 f9 => l10_awake w9 fun j hj => f9.cell' (hc8.hd.fr.cell' (unhide HT j hj) (fun x => x)) (fun x => x)
            have c1 := bo8.c; have c2 := bh8.c
            have HFR8 := hide FR8; have HPC8 := hide PC8; have HAW := @hide _ AW; have HFF := hide hc8.hd.fr
            clear FR8 PC8 AW hc8 hc7 bh7 bh8 bo8 md dr sy6 sy8 e0 nw sy fr8 HX7
            go_wp2_with (first | (go_at_call 17; refine (unhide HFR8).mono ?_; rintro e w' ⟨rfl, hh⟩; replace hh := hh.symm; subst hh) | fail)
            refine (unhide HPC8).mono ?_
            clear HPC8 HFR8
            rintro e w9 ⟨vp, rfl, ow, f9⟩
            have AW9 := hide (unhide HAW w9 f9)
            have HF9 := hide ((unhide HFF).trans' f9 (fun _ x => x.elim))
            obtain ⟨ap, cap, rfl⟩ : ∃ ap cap, vp = .slice ap 0 cap := by
              rcases row_form ow with ⟨e, _⟩ | ⟨gp, capp, e⟩
              · exact ⟨none, 0, e⟩
              · exact ⟨_, capp, e⟩
            clear HAW f9 ow c1 c2 HFF
            go_wp2_with fail
            refine (unhide AW9).mono ?_
            rintro e w10 ⟨rfl, f10⟩
            have f := (unhide HF9).trans' f10 (fun _ x => x.elim)
            have HF := hide f
            clear f f10
            go_wp2
            go_ret
            have f := unhide HF
            exact ⟨rfl, f.os, f.tape, f.output, f.size, fun k hk => f.block k hk (fun x => x)⟩
          · cases hq2
        · exact (well_errno he).elim
      · rcases r6 with ⟨he, _⟩ | ⟨he, n4⟩
        · exact (well_errno he.symm).elim
        · have ei := errno_inj he
          subst ei
          obtain ⟨hc5, bs5, bh5, bb5⟩ := unhide HX5
          obtain ⟨nw, sy⟩ := unhide HNN
          have bh6 := hc5.box fr6 (.inl (.inl (.inl (.inr rfl)))) (by omega) bh5
          have bb6 := hc5.box fr6 (.inl (.inr rfl)) (by omega) bb5
          have FR8 := h_free hc6.toHp.hp hc6.toHp.reads 3824 (by omega) (by rw [sy]; exact nw.st.free0 nw.ak)
          have AW := l10_awake w6 fun j hj => hc6.hd.fr.cell' (unhide HT j hj) (fun x => x)
          have c1 := bb6.c; have c2 := bh6.c
          have hm4 : ((4096 : Int) < m) = True := by simp; omega
          have HFR8 := hide FR8; have HAW := hide AW; have HFF := hide hc6.hd.fr
          clear FR8 AW hc6 hc5 bs5 bh5 bb5 bh6 bb6 nw sy fr6 HX5 HN5
          go_wp2_with (first | (go_at_call 17; refine (unhide HFR8).mono ?_; rintro e w' ⟨rfl, hh⟩; replace hh := hh.symm; subst hh) | fail)
          refine (unhide HAW).mono ?_
          clear HAW
          rintro e w10 ⟨rfl, f10⟩
          have f := (unhide HFF).trans' f10 (fun _ x => x.elim)
          have HF := hide f
          clear f f10
          go_wp2
          go_ret
          have f := unhide HF
          exact ⟨rfl, f.os, f.tape, f.output, f.size, fun k hk => f.block k hk (fun x => x)⟩
end
end Go.Proofs.YtflnaiijdpihcaaGreatDoor
