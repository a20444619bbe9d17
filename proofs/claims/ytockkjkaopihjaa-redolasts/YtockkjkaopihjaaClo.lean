/- The closures of RedoAgain and RedoLasts, told. -/
import Derived.Test.YtockkjkaopihjaaStn
namespace Go.Proofs.Ytockkjkaopihjaa
open Go.RowKit

section
variable {W : World} {b lg bg bx bd cap : Nat} {L : Lay} {free : Prop} {A : Ab} {s : Int} {f h base : Nat → Int} {xs : List (Int × Int)} {a : Option Addr}

set_option maxHeartbeats 1000000 in
theorem clo_commitRedoAgain (d : DevL W b L A) (hl : LogAt W lg b 0 64) (hlg : ¬ foot b L lg) (c : Calm 32 free A s f) (hc : Clean 0 64 base f) (x : WrS W xs a) (hx : ∀ g o, a = some ⟨g, o, none⟩ → ¬ foot b L g) (xg : Box W bg (ptr lg)) (xx : Box W bx (.slice a xs.length cap)) (hs : s + 129 < 4294967296) :
    Calls Try.prog 20 #[ptr bg, ptr bx] W fun e w' =>
      ((∃ v, e = .returned v) ∧ DM W b L w' fun A' => ∃ f', Calm 32 free A' (s + 129) f' ∧ Clean 0 64 (homed xs.reverse base) f') ∨ (e = .panicked lost ∧ DM W b L w' fun A' => Rest base xs (s + 129) A') := by
  have C := commit_any (cap := cap) d hl hlg c hc x hx hs
  have HC := hide C
  have c1 := xg.c; have c2 := xx.c
  clear C d hl hlg c hc x hx xg xx
  go_enter Try.func20, Try.ntmps20
  go_wp2_with fail
  refine (unhide HC).mono ?_
  clear HC
  rintro e w' (⟨rfl, D⟩ | ⟨rfl, D⟩)
  rotate_left
  · exact ⟨rfl, .inr ⟨rfl, D.mono fun A' t => t.2⟩⟩
  have HD := hide D
  clear D
  go_wp2
  go_end0
  exact .inl ⟨⟨_, rfl⟩, unhide HD⟩

theorem tell_commitRedoAgain (d : DevL W b L A) (hl : LogAt W lg b 0 64) (hlg : ¬ foot b L lg) (c : Calm 32 free A s f) (hc : Clean 0 64 base f) (x : WrS W xs a) (hx : ∀ g o, a = some ⟨g, o, none⟩ → ¬ foot b L g) (xg : Box W bg (ptr lg)) (xx : Box W bx (.slice a xs.length cap)) (hs : s + 129 < 4294967296) :
    Calls Try.prog 19 #[.int .i64 0, .func (.func 20) #[] #[ptr bg, ptr bx]] W fun e w' =>
      (e = .returned (.int .i64 0) ∧ DM W b L w' fun A' => ∃ f', Calm 32 free A' (s + 129) f' ∧ Clean 0 64 (homed xs.reverse base) f') ∨ (e = .returned (.int .i64 1) ∧ DM W b L w' fun A' => Rest base xs (s + 129) A') := by
  have fb := boxed_fr W 0
  exact told_dm (first := #[]) (cap := #[ptr bg, ptr bx]) (fun _ _ => by kernel_rfl) d (clo_commitRedoAgain (d.keptF fb) (hl.kept fb (fun h => h)) hlg c hc (x.kept fb (fun _ _ _ h => h)) hx (xg.kept fb (fun h => h)) (xx.kept fb (fun h => h)) hs)

set_option maxHeartbeats 1000000 in
theorem clo_openRedoAgain (d : DevL W b L A) (c : Calm 32 free A s h) (st : Stand base xs h) (hxs : xs.length ≤ 24) (xd : Box W bd (ptr b)) (hs : s + 52 < 4294967296) :
    Calls Try.prog 21 #[ptr bd] W fun e w' => ((∃ v, e = .returned v) ∧ DM W b L w' fun A' => Rest base xs (s + 52) A') ∨ (e = .panicked lost ∧ DM W b L w' fun A' => Rest base xs (s + 52) A') := by
  have C := open_stand d c st hxs hs
  have HC := hide C
  have c1 := xd.c
  clear C d c st xd
  go_enter Try.func21, Try.ntmps21
  go_wp2_with fail
  refine (unhide HC).mono ?_
  clear HC
  rintro e w' (⟨rfl, _, L', A', h', o, _, c', e'⟩ | ⟨rfl, D⟩)
  rotate_left
  · exact ⟨rfl, .inr ⟨rfl, D.mono fun A' t => t.2⟩⟩
  have D : DM W b L w' fun A' => Rest base xs (s + 52) A' := o.dm (stand_calm c' (e'.elim .inl (fun x => .inr (.inr x))))
  have HD := hide D
  clear D o c' e'
  go_wp2
  go_end0
  exact .inl ⟨⟨_, rfl⟩, unhide HD⟩

theorem tell_openRedoAgain (d : DevL W b L A) (c : Calm 32 free A s h) (st : Stand base xs h) (hxs : xs.length ≤ 24) (xd : Box W bd (ptr b)) (hs : s + 52 < 4294967296) :
    Calls Try.prog 19 #[.int .i64 0, .func (.func 21) #[] #[ptr bd]] W fun e w' => (∃ n : Int, e = .returned (.int .i64 n)) ∧ DM W b L w' fun A' => Rest base xs (s + 52) A' := by
  have fb := boxed_fr W 0
  refine (told_dm (first := #[]) (cap := #[ptr bd]) (fun _ _ => by kernel_rfl) d (clo_openRedoAgain (d.keptF fb) c st hxs (xd.kept fb (fun h => h)) hs)).mono ?_
  rintro e w' (⟨rfl, D⟩ | ⟨rfl, D⟩)
  · exact ⟨⟨_, rfl⟩, D⟩
  · exact ⟨⟨_, rfl⟩, D⟩

set_option maxHeartbeats 1000000 in
theorem clo_commitRedoLasts (d : DevL W b L A) (hl : LogAt W lg b 0 64) (hlg : ¬ foot b L lg) (c : Calm 32 free A s f) (hc : Clean 0 64 base f) (x : WrS W xs a) (hx : ∀ g o, a = some ⟨g, o, none⟩ → ¬ foot b L g) (xg : Box W bg (ptr lg)) (xx : Box W bx (.slice a xs.length cap)) (hs : s + 129 < 4294967296) :
    Calls Try.prog 28 #[ptr bg, ptr bx] W fun e w' =>
      ((∃ v, e = .returned v) ∧ DM W b L w' fun A' => ∃ f', Calm 32 free A' (s + 129) f' ∧ Clean 0 64 (homed xs.reverse base) f') ∨ (e = .panicked lost ∧ DM W b L w' fun A' => Rest base xs (s + 129) A') := by
  have C := commit_any (cap := cap) d hl hlg c hc x hx hs
  have HC := hide C
  have c1 := xg.c; have c2 := xx.c
  clear C d hl hlg c hc x hx xg xx
  go_enter Try.func28, Try.ntmps28
  go_wp2_with fail
  refine (unhide HC).mono ?_
  clear HC
  rintro e w' (⟨rfl, D⟩ | ⟨rfl, D⟩)
  rotate_left
  · exact ⟨rfl, .inr ⟨rfl, D.mono fun A' t => t.2⟩⟩
  have HD := hide D
  clear D
  go_wp2
  go_end0
  exact .inl ⟨⟨_, rfl⟩, unhide HD⟩

theorem tell_commitRedoLasts (d : DevL W b L A) (hl : LogAt W lg b 0 64) (hlg : ¬ foot b L lg) (c : Calm 32 free A s f) (hc : Clean 0 64 base f) (x : WrS W xs a) (hx : ∀ g o, a = some ⟨g, o, none⟩ → ¬ foot b L g) (xg : Box W bg (ptr lg)) (xx : Box W bx (.slice a xs.length cap)) (hs : s + 129 < 4294967296) :
    Calls Try.prog 19 #[.int .i64 0, .func (.func 28) #[] #[ptr bg, ptr bx]] W fun e w' =>
      (e = .returned (.int .i64 0) ∧ DM W b L w' fun A' => ∃ f', Calm 32 free A' (s + 129) f' ∧ Clean 0 64 (homed xs.reverse base) f') ∨ (e = .returned (.int .i64 1) ∧ DM W b L w' fun A' => Rest base xs (s + 129) A') := by
  have fb := boxed_fr W 0
  exact told_dm (first := #[]) (cap := #[ptr bg, ptr bx]) (fun _ _ => by kernel_rfl) d (clo_commitRedoLasts (d.keptF fb) (hl.kept fb (fun h => h)) hlg c hc (x.kept fb (fun _ _ _ h => h)) hx (xg.kept fb (fun h => h)) (xx.kept fb (fun h => h)) hs)

set_option maxHeartbeats 1000000 in
theorem clo_openRedoLasts (d : DevL W b L A) (c : Calm 32 free A s h) (st : Stand base xs h) (hxs : xs.length ≤ 24) (xd : Box W bd (ptr b)) (hs : s + 52 < 4294967296) :
    Calls Try.prog 29 #[ptr bd] W fun e w' => ((∃ v, e = .returned v) ∧ DM W b L w' fun A' => Rest base xs (s + 52) A') ∨ (e = .panicked lost ∧ DM W b L w' fun A' => Rest base xs (s + 52) A') := by
  have C := open_stand d c st hxs hs
  have HC := hide C
  have c1 := xd.c
  clear C d c st xd
  go_enter Try.func29, Try.ntmps29
  go_wp2_with fail
  refine (unhide HC).mono ?_
  clear HC
  rintro e w' (⟨rfl, _, L', A', h', o, _, c', e'⟩ | ⟨rfl, D⟩)
  rotate_left
  · exact ⟨rfl, .inr ⟨rfl, D.mono fun A' t => t.2⟩⟩
  have D : DM W b L w' fun A' => Rest base xs (s + 52) A' := o.dm (stand_calm c' (e'.elim .inl (fun x => .inr (.inr x))))
  have HD := hide D
  clear D o c' e'
  go_wp2
  go_end0
  exact .inl ⟨⟨_, rfl⟩, unhide HD⟩

theorem tell_openRedoLasts (d : DevL W b L A) (c : Calm 32 free A s h) (st : Stand base xs h) (hxs : xs.length ≤ 24) (xd : Box W bd (ptr b)) (hs : s + 52 < 4294967296) :
    Calls Try.prog 19 #[.int .i64 0, .func (.func 29) #[] #[ptr bd]] W fun e w' => (∃ n : Int, e = .returned (.int .i64 n)) ∧ DM W b L w' fun A' => Rest base xs (s + 52) A' := by
  have fb := boxed_fr W 0
  refine (told_dm (first := #[]) (cap := #[ptr bd]) (fun _ _ => by kernel_rfl) d (clo_openRedoLasts (d.keptF fb) c st hxs (xd.kept fb (fun h => h)) hs)).mono ?_
  rintro e w' (⟨rfl, D⟩ | ⟨rfl, D⟩)
  · exact ⟨⟨_, rfl⟩, D⟩
  · exact ⟨⟨_, rfl⟩, D⟩
end
end Go.Proofs.Ytockkjkaopihjaa
