/- The plain methods of a device, each said of the cells that it reads and writes. -/
import Derived.Test.YtamghkabclbkgaaRows
import Derived.Test.YtamghkabclbkgaaBase
namespace Go.Proofs.Ytamghkabclbkgaa
open Go.RowKit

set_option maxHeartbeats 400000 in
theorem words_any {kn : Nat} (b bn n : Nat) (w : World) (hn : n ≤ 8192) (h0 : w.cell? ⟨b, 0, none⟩ = some (rowc bn n kn)) :
    Calls Try.prog 46 #[ptr b] w fun e w' => e = .returned (.int .i64 (n * 8)) ∧ w' = w := by
  go_enter Try.func46, Try.ntmps46
  go_wp2
  go_ret
  exact ⟨rfl, rfl⟩

set_option maxHeartbeats 400000 in
theorem has_yes {kn : Nat} (b bn n : Nat) (i : Int) (w : World) (hn : n ≤ 8192) (h0 : w.cell? ⟨b, 0, none⟩ = some (rowc bn n kn)) (hi0 : 0 ≤ i) (hi : i < n * 8) :
    Calls Try.prog 47 #[ptr b, .int .i64 i] w fun e w' => e = .returned (.bool true) ∧ w' = w := by
  go_enter Try.func47, Try.ntmps47
  go_wp2
  go_ret
  exact ⟨rfl, rfl⟩

set_option maxHeartbeats 400000 in
theorem has_no {kn : Nat} (b bn n : Nat) (i : Int) (w : World) (hn : n ≤ 8192) (h0 : w.cell? ⟨b, 0, none⟩ = some (rowc bn n kn)) (hi : i < 0 ∨ n * 8 ≤ i) :
    Calls Try.prog 47 #[ptr b, .int .i64 i] w fun e w' => e = .returned (.bool false) ∧ w' = w := by
  by_cases h : 0 ≤ i
  · have hh : ¬ i < n * 8 := by omega
    clear hi
    go_enter Try.func47, Try.ntmps47
    go_wp2
    go_ret
    exact ⟨rfl, rfl⟩
  · clear hi
    go_enter Try.func47, Try.ntmps47
    go_wp2
    go_ret
    exact ⟨rfl, rfl⟩

set_option maxHeartbeats 400000 in
theorem mustHave_yes {kn : Nat} (b bn n : Nat) (i : Int) (w : World) (hn : n ≤ 8192) (h0 : w.cell? ⟨b, 0, none⟩ = some (rowc bn n kn)) (hi0 : 0 ≤ i) (hi : i < n * 8) :
    Calls Try.prog 66 #[ptr b, .int .i64 i] w fun e w' => e = .returned (.tuple #[]) ∧ w' = w := by
  go_enter Try.func66, Try.ntmps66
  go_wp2_with (go_at_call 47; refine (has_yes b bn n i _ hn h0 hi0 hi).mono ?_; rintro e w' ⟨rfl, rfl⟩)
  go_end0
  exact ⟨rfl, rfl⟩

set_option maxHeartbeats 400000 in
theorem mustHave_no {kn : Nat} (b bn n : Nat) (i : Int) (w : World) (hn : n ≤ 8192) (h0 : w.cell? ⟨b, 0, none⟩ = some (rowc bn n kn)) (hi : i < 0 ∨ n * 8 ≤ i) :
    Calls Try.prog 66 #[ptr b, .int .i64 i] w fun e w' => e = .panicked (wrong i) ∧ w' = w := by
  have H := hi
  go_enter Try.func66, Try.ntmps66
  go_wp2_with (go_at_call 47; refine (has_no b bn n i _ hn h0 hi).mono ?_; rintro e w' ⟨rfl, rfl⟩)
  exact ⟨rfl, rfl, rfl⟩

set_option maxHeartbeats 400000 in
theorem mustLive_yes (b : Nat) (w : World) (h6 : w.cell? ⟨b, 6, none⟩ = some (.bool false)) :
    Calls Try.prog 67 #[ptr b] w fun e w' => e = .returned (.tuple #[]) ∧ w' = w := by
  go_enter Try.func67, Try.ntmps67
  go_wp2
  go_end0
  exact ⟨rfl, rfl⟩

set_option maxHeartbeats 400000 in
theorem mustLive_no (b : Nat) (w : World) (h6 : w.cell? ⟨b, 6, none⟩ = some (.bool true)) :
    Calls Try.prog 67 #[ptr b] w fun e w' => e = .panicked lost ∧ w' = w := by
  go_enter Try.func67, Try.ntmps67
  go_wp2
  exact ⟨rfl, rfl, rfl⟩

set_option maxHeartbeats 400000 in
theorem dead_any (b : Nat) (s : Bool) (w : World) (h4 : w.cell? ⟨b, 6, none⟩ = some (.bool s)) :
    Calls Try.prog 35 #[ptr b] w fun e w' => e = .returned (.bool s) ∧ w' = w := by
  go_enter Try.func35, Try.ntmps35
  go_wp2
  go_ret
  exact ⟨rfl, rfl⟩

set_option maxHeartbeats 400000 in
theorem fuse_any (b : Nat) (k f : Int) (w : World) (h5 : w.cell? ⟨b, 5, none⟩ = some (.int .i64 f)) (hz : w.frozen? ⟨b, 5, none⟩ = false) :
    Calls Try.prog 28 #[ptr b, .int .i64 k] w fun e w' => e = .returned (.tuple #[]) ∧ w' = w.setCell ⟨b, 5, none⟩ (.int .i64 k) := by
  go_enter Try.func28, Try.ntmps28
  go_wp2
  go_end0
  exact ⟨rfl, rfl⟩

/- step: a dead device -/
set_option maxHeartbeats 400000 in
theorem step_dead (b : Nat) (f : Int) (w : World) (h5 : w.cell? ⟨b, 5, none⟩ = some (.int .i64 f)) (hf : (f == 0) = false) (h6 : w.cell? ⟨b, 6, none⟩ = some (.bool true)) :
    Calls Try.prog 77 #[ptr b] w fun e w' => e = .panicked lost ∧ w' = w := by
  go_enter Try.func77, Try.ntmps77
  go_wp2_with (go_at_call 67; refine (mustLive_no b _ h6).mono ?_; rintro e w' ⟨rfl, rfl⟩)
  exact ⟨rfl, rfl, rfl⟩

set_option maxHeartbeats 400000 in
theorem step_burnt (b : Nat) (d : Bool) (w : World) (h5 : w.cell? ⟨b, 5, none⟩ = some (.int .i64 0)) (h6 : w.cell? ⟨b, 6, none⟩ = some (.bool d)) (hz : w.frozen? ⟨b, 6, none⟩ = false) :
    Calls Try.prog 77 #[ptr b] w fun e w' => e = .panicked lost ∧ w' = w.setCell ⟨b, 6, none⟩ (.bool true) := by
  go_enter Try.func77, Try.ntmps77
  go_wp2_with (go_at_call 67; refine (mustLive_no b _ (World.cell?_setCell_same _ _ _ h6)).mono ?_; rintro e w' ⟨rfl, rfl⟩)
  exact ⟨rfl, rfl, rfl⟩

set_option maxHeartbeats 400000 in
theorem step_fuse (b : Nat) (f s : Int) (w : World) (h4 : w.cell? ⟨b, 4, none⟩ = some (.int .i64 s)) (h5 : w.cell? ⟨b, 5, none⟩ = some (.int .i64 f)) (h6 : w.cell? ⟨b, 6, none⟩ = some (.bool false))
    (hz4 : w.frozen? ⟨b, 4, none⟩ = false) (hz5 : w.frozen? ⟨b, 5, none⟩ = false) (hf : 0 < f) (hf2 : f < 9223372036854775808) (hs0 : 0 ≤ s) (hs : s < 4294967296) :
    Calls Try.prog 77 #[ptr b] w fun e w' => e = .returned (.tuple #[]) ∧ w' = (w.setCell ⟨b, 5, none⟩ (.int .i64 (f - 1))).setCell ⟨b, 4, none⟩ (.int .i64 (s + 1)) := by
  have hf0 : (f == 0) = false := by simp; omega
  go_enter Try.func77, Try.ntmps77
  go_wp2_with (go_at_call 67; refine (mustLive_yes b _ h6).mono ?_; rintro e w' ⟨rfl, rfl⟩)
  go_end0
  exact ⟨rfl, rfl⟩

set_option maxHeartbeats 400000 in
theorem step_free (b : Nat) (f s : Int) (w : World) (h4 : w.cell? ⟨b, 4, none⟩ = some (.int .i64 s)) (h5 : w.cell? ⟨b, 5, none⟩ = some (.int .i64 f)) (h6 : w.cell? ⟨b, 6, none⟩ = some (.bool false))
    (hz4 : w.frozen? ⟨b, 4, none⟩ = false) (hf : f < 0) (hs0 : 0 ≤ s) (hs : s < 4294967296) :
    Calls Try.prog 77 #[ptr b] w fun e w' => e = .returned (.tuple #[]) ∧ w' = w.setCell ⟨b, 4, none⟩ (.int .i64 (s + 1)) := by
  have hf0 : (f == 0) = false := by simp; omega
  go_enter Try.func77, Try.ntmps77
  go_wp2_with (go_at_call 67; refine (mustLive_yes b _ h6).mono ?_; rintro e w' ⟨rfl, rfl⟩)
  go_end0
  exact ⟨rfl, rfl⟩

end Go.Proofs.Ytamghkabclbkgaa
