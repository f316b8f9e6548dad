/- Layer 9: methods of nil pointers, and of houses and worlds that were not made. -/
import Derived.Test.YtcichnapgdkbhaaGreatT90
import Derived.Test.YtcichnapgdkbhaaGreatUJ
set_option linter.all false
namespace Go.Proofs.YtcichnapgdkbhaaGreat
open Go.RowKit

/-- the note of zeros -/
def zNote : Value := .agg #[.int .i64 0, .int .i64 0, .int .i64 0, .int .i64 0, .int .i64 0, .int .i64 0, .int .i64 0, .int .i64 0, .int .i64 0, .int .i64 0, .int .i64 0, .int .i64 0, .int .i64 0, .int .i64 0, .int .i64 0, .slice none 0 0, .int .i64 0, .int .i64 0, .int .i64 0]
theorem nSync_run : Eng.closedRun Tryz.prog 10000 200 15 [.pointer none] = some (.tuple #[]) := by kernel_rfl
theorem nSync_c (w : World) : Calls Tryz.prog 15 #[.pointer none] w fun e w' => e = .returned (.tuple #[]) ∧ Below w.heap.size w w' := Eng.closed_run (args := [.pointer none]) mixed noNum rfl nSync_run w
theorem nSizes_run : Eng.closedRun Tryz.prog 10000 200 16 [.pointer none] = some (.tuple #[.int .i64 0, .int .i64 0, .int .i64 0, .int .i64 0]) := by kernel_rfl
theorem nSizes_c (w : World) : Calls Tryz.prog 16 #[.pointer none] w fun e w' => e = .returned (.tuple #[.int .i64 0, .int .i64 0, .int .i64 0, .int .i64 0]) ∧ Below w.heap.size w w' := Eng.closed_run (args := [.pointer none]) mixed noNum rfl nSizes_run w
theorem nCrash_run : Eng.closedRun Tryz.prog 10000 200 13 [.pointer none, .int .i64 0, .int .i64 0, .int .i64 (-1)] = some (.int .i64 1) := by kernel_rfl
theorem nCrash_c (w : World) : Calls Tryz.prog 13 #[.pointer none, .int .i64 0, .int .i64 0, .int .i64 (-1)] w fun e w' => e = .returned (.int .i64 1) ∧ Below w.heap.size w w' := Eng.closed_run (args := [.pointer none, .int .i64 0, .int .i64 0, .int .i64 (-1)]) mixed noNum rfl nCrash_run w
theorem nTallies_run : Eng.closedRun Tryz.prog 10000 200 14 [.pointer none] = some (.slice none 0 0) := by kernel_rfl
theorem nTallies_c (w : World) : Calls Tryz.prog 14 #[.pointer none] w fun e w' => e = .returned (.slice none 0 0) ∧ Below w.heap.size w w' := Eng.closed_run (args := [.pointer none]) mixed noNum rfl nTallies_run w
theorem sameZero_run : Eng.closedRun Tryz.prog 10000 400 20 [zNote, zNote] = some (.bool true) := by kernel_rfl
theorem sameZero_c (w : World) : Calls Tryz.prog 20 #[zNote, zNote] w fun e w' => e = .returned (.bool true) ∧ Below w.heap.size w w' := Eng.closed_run (args := [zNote, zNote]) mixed noNum (by kernel_rfl) sameZero_run w
theorem zerosNil_run : Eng.closedRun Tryz.prog 10000 200 24 [.slice none 0 0] = some (.bool true) := by kernel_rfl
theorem zerosNil_c (w : World) : Calls Tryz.prog 24 #[.slice none 0 0] w fun e w' => e = .returned (.bool true) ∧ Below w.heap.size w w' := Eng.closed_run (args := [.slice none 0 0]) mixed noNum rfl zerosNil_run w

/-- a house that was not made -/
def DeadH (W : World) (h : Value) : Prop := h = .pointer none ∨ ∃ b, h = .pointer (some ⟨b, 0, none⟩) ∧ W.cell? ⟨b, 4, none⟩ = some (.map none) ∧ b < W.heap.size
/-- a world that was not made -/
def DeadW (W : World) (h : Value) : Prop := h = .pointer none ∨ ∃ b, h = .pointer (some ⟨b, 0, none⟩) ∧ W.cell? ⟨b, 3, none⟩ = some (.slice none 0 0) ∧ b < W.heap.size
theorem DeadH.later {W W' : World} {h : Value} (d : DeadH W h) (hb : Below W.heap.size W W') : DeadH W' h := d.imp id fun ⟨b, e, q, l⟩ => ⟨b, e, keepd q hb l, Nat.lt_of_lt_of_le l hb.size⟩
theorem DeadW.later {W W' : World} {h : Value} (d : DeadW W h) (hb : Below W.heap.size W W') : DeadW W' h := d.imp id fun ⟨b, e, q, l⟩ => ⟨b, e, keepd q hb l, Nat.lt_of_lt_of_le l hb.size⟩

theorem nWrite_c (A : Option Addr) (n c : Nat) (w : World) : Calls Tryz.prog 12 #[.pointer none, .slice A n c] w fun e w' => e = .returned (.int .i64 1) ∧ w = w' := by
  go_enter Tryz.func12, Tryz.ntmps12
  go_wp2_with fail
  go_ret
  exact ⟨rfl, rfl⟩
theorem neq_map (w : World) : Sem.run Tryz.prog (binOp .neq 41 (.map none) (.map none)) w = .ok (.bool false) w := by kernel_rfl
set_option maxRecDepth 100000 in
set_option maxHeartbeats 4000000 in
theorem isMadeH (h : Value) (w : World) (d : DeadH w h) : Calls Tryz.prog 41 #[h] w fun e w' => e = .returned (.bool false) ∧ w = w' := by
  rcases d with rfl | ⟨b, rfl, q, -⟩
  · go_enter Tryz.func41, Tryz.ntmps41
    go_wp2_with fail
    go_ret
    exact ⟨rfl, rfl⟩
  · go_enter Tryz.func41, Tryz.ntmps41
    go_wp2_with fail
    rw [neq_map]
    go_wp2_with fail
    go_ret
    exact ⟨rfl, rfl⟩
set_option maxRecDepth 100000 in
set_option maxHeartbeats 4000000 in
theorem isMadeW (h : Value) (w : World) (d : DeadW w h) : Calls Tryz.prog 54 #[h] w fun e w' => e = .returned (.bool false) ∧ w = w' := by
  rcases d with rfl | ⟨b, rfl, q, -⟩
  · go_enter Tryz.func54, Tryz.ntmps54
    go_wp2_with fail
    go_ret
    exact ⟨rfl, rfl⟩
  · go_enter Tryz.func54, Tryz.ntmps54
    go_wp2_with fail
    go_ret
    exact ⟨rfl, rfl⟩
set_option maxRecDepth 100000 in
set_option maxHeartbeats 4000000 in
theorem hSync (h : Value) (w : World) (d : DeadH w h) : Calls Tryz.prog 19 #[h] w fun e w' => e = .returned (.tuple #[]) ∧ w = w' := by
  have k := Lib.hid (isMadeH h w d)
  clear d
  go_enter Tryz.func19, Tryz.ntmps19
  go_wp2_with fail
  refine k.out.mono ?_; rintro e w1 ⟨rfl, rfl⟩
  go_wp2_with fail
  go_end0
  exact ⟨rfl, rfl⟩
set_option maxRecDepth 100000 in
set_option maxHeartbeats 4000000 in
theorem hMissing (h : Value) (w : World) (d : DeadH w h) : Calls Tryz.prog 21 #[h, .slice none 0 0] w fun e w' => e = .returned (.slice none 0 0) ∧ w = w' := by
  have k := Lib.hid (isMadeH h w d)
  clear d
  go_enter Tryz.func21, Tryz.ntmps21
  go_wp2_with fail
  refine k.out.mono ?_; rintro e w1 ⟨rfl, rfl⟩
  go_wp2_with fail
  go_ret
  exact ⟨rfl, rfl⟩
set_option maxRecDepth 100000 in
set_option maxHeartbeats 4000000 in
theorem hCounts (h : Value) (w : World) (d : DeadH w h) : Calls Tryz.prog 25 #[h] w fun e w' => e = .returned (.slice none 0 0) ∧ w = w' := by
  have k := Lib.hid (isMadeH h w d)
  clear d
  go_enter Tryz.func25, Tryz.ntmps25
  go_wp2_with fail
  refine k.out.mono ?_; rintro e w1 ⟨rfl, rfl⟩
  go_wp2_with fail
  go_ret
  exact ⟨rfl, rfl⟩
set_option maxRecDepth 100000 in
set_option maxHeartbeats 4000000 in
theorem hCrash (h : Value) (a b c : Int) (w : World) (d : DeadH w h) : Calls Tryz.prog 22 #[h, .int .i64 a, .int .i64 b, .int .i64 c] w fun e w' => e = .returned (.int .i64 1) ∧ w = w' := by
  have k := Lib.hid (isMadeH h w d)
  clear d
  go_enter Tryz.func22, Tryz.ntmps22
  go_wp2_with fail
  refine k.out.mono ?_; rintro e w1 ⟨rfl, rfl⟩
  go_wp2_with fail
  go_ret
  exact ⟨rfl, rfl⟩
set_option maxRecDepth 100000 in
set_option maxHeartbeats 4000000 in
theorem hHear (h : Value) (A : Option Addr) (n c : Nat) (w : World) (d : DeadH w h) : Calls Tryz.prog 18 #[h, .slice A n c] w fun e w' => e = .returned (.tuple #[.int .i64 0, .int .i64 1]) ∧ w = w' := by
  have k := Lib.hid (isMadeH h w d)
  clear d
  go_enter Tryz.func18, Tryz.ntmps18
  go_wp2_with fail
  refine k.out.mono ?_; rintro e w1 ⟨rfl, rfl⟩
  go_wp2_with fail
  go_ret2
  exact ⟨rfl, rfl⟩
set_option maxRecDepth 100000 in
set_option maxHeartbeats 4000000 in
theorem hNotes (h : Value) (w : World) (d : DeadH w h) : Calls Tryz.prog 23 #[h] w fun e w' => e = .returned (.slice none 0 0) ∧ w = w' := by
  have k := Lib.hid (hMissing h w d)
  clear d
  go_enter Tryz.func23, Tryz.ntmps23
  go_wp2_with fail
  refine k.out.mono ?_; rintro e w1 ⟨rfl, rfl⟩
  go_wp2_with fail
  go_ret
  exact ⟨rfl, rfl⟩
set_option maxRecDepth 100000 in
set_option maxHeartbeats 4000000 in
theorem wNotes (h : Value) (i : Int) (w : World) (d : DeadW w h) : Calls Tryz.prog 26 #[h, .int .i64 i] w fun e w' => e = .returned (.tuple #[.slice none 0 0, .int .i64 1]) ∧ w = w' := by
  have k := Lib.hid (isMadeW h w d)
  clear d
  go_enter Tryz.func26, Tryz.ntmps26
  go_wp2_with fail
  refine k.out.mono ?_; rintro e w1 ⟨rfl, rfl⟩
  go_wp2_with fail
  go_ret2
  exact ⟨rfl, rfl⟩
set_option maxRecDepth 100000 in
set_option maxHeartbeats 4000000 in
theorem wSettle (h : Value) (w : World) (d : DeadW w h) : Calls Tryz.prog 28 #[h] w fun e w' => e = .returned (.int .i64 1) ∧ w = w' := by
  have k := Lib.hid (isMadeW h w d)
  clear d
  go_enter Tryz.func28, Tryz.ntmps28
  go_wp2_with fail
  refine k.out.mono ?_; rintro e w1 ⟨rfl, rfl⟩
  go_wp2_with fail
  go_ret
  exact ⟨rfl, rfl⟩
set_option maxRecDepth 100000 in
set_option maxHeartbeats 4000000 in
theorem wMails (h : Value) (w : World) (d : DeadW w h) : Calls Tryz.prog 29 #[h] w fun e w' => e = .returned (.slice none 0 0) ∧ w = w' := by
  have k := Lib.hid (isMadeW h w d)
  clear d
  go_enter Tryz.func29, Tryz.ntmps29
  go_wp2_with fail
  refine k.out.mono ?_; rintro e w1 ⟨rfl, rfl⟩
  go_wp2_with fail
  go_ret
  exact ⟨rfl, rfl⟩
set_option maxRecDepth 100000 in
set_option maxHeartbeats 4000000 in
theorem wStep (h : Value) (N : Array Value) (w : World) (d : DeadW w h) : Calls Tryz.prog 27 #[h, .agg N] w fun e w' => e = .returned (.int .i64 1) ∧ Below w.heap.size w w' := by
  have hb0 : Below w.heap.size w (w.alloc (.cells N 31)) := (Below.refl _ _).alloc (Nat.le_refl _) _
  have k := Lib.hid (isMadeW h _ (d.later hb0))
  clear d hb0
  go_enter Tryz.func27, Tryz.ntmps27
  go_wp2_with fail
  refine k.out.mono ?_; rintro e w1 ⟨rfl, rfl⟩
  go_wp2_with fail
  go_ret
  exact ⟨rfl, (Below.refl _ _).alloc (Nat.le_refl _) _⟩
end Go.Proofs.YtcichnapgdkbhaaGreat
